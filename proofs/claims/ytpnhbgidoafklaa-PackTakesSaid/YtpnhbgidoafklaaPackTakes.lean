/-
  bosunlaw02.PackTakes returns true, for every text and every list of acts: no condition.
-/
import Derived.Test.YtpnhbgidoafklaaRows
import Derived.Test.YtpnhbgidoafklaaRTail
import Derived.WalkKit
import Derived.ProofKit
import Derived.OpenShut
import Derived.ShutString
import Derived.ChangeOld
import Derived.Carry
import Derived.Deep.SlicePairs
import Derived.RegionTactic
import Derived.Deep.LoopGhost
import Derived.Deep.DeepCutAuto
import Derived.Deep.CutRange
import Derived.Deep.CutBlock
import Derived.Deep.RegionHeld3
namespace Go.Proofs.Ytpnhbgidoafklaa.packTakes
open Go.ChangeShapes Go.WideShapes Go.ChangeAt Go.RowKit
open Go.ChangeMaps (open_string shut_string)
set_option linter.unusedVariables false

theorem own : ownKnob Try.prog.godebug = none := by kernel_rfl
theorem laidOut : laidOutB Try.prog = true := by kernel_rfl

/-- Block b is the document's Taker. -/
def atR (w : World) (b : Nat) (s : ByteArray) (e : Int) : Prop := w.heap[b]? = some (.cells #[.string s, .int .i64 e] 37 (0, 0))
theorem atR_facts {w : World} {b : Nat} {s : ByteArray} {e : Int} (h : atR w b s e) :
    w.cell? ⟨b, 0, none⟩ = some (.string s) ∧ w.cell? ⟨b, 1, none⟩ = some (.int .i64 e) ∧ w.frozen? ⟨b, 0, none⟩ = false ∧ w.frozen? ⟨b, 1, none⟩ = false := by
  unfold atR at h
  simp [World.cell?, World.frozen?, h]
theorem atR_lt {w : World} {b : Nat} {s : ByteArray} {e : Int} (h : atR w b s e) : b < w.heap.size := by
  unfold atR at h
  exact (Array.getElem?_eq_some_iff.1 h).1
/-- What holds at the head of each round: both Takers are alike; of what was there nothing has turned. -/
structure Alike (w wr : World) (s : ByteArray) (e : Int) : Prop where
  t : atT wr w.heap.size s e
  r : atR wr (w.heap.size + 1) s e
  len : s.size ≤ 6000
  fresh : Fresh w wr
def SomeAlike (w wr : World) : Prop := ∃ s e, Alike w wr s e
theorem Moved.below {w w0 w1 : World} {s : ByteArray} {e : Int} {b : Nat} (hf : Fresh w w0) (h : Moved b w0 w1 s e) (hb : w.heap.size ≤ b) : Fresh w w1 :=
  ⟨h.os.trans hf.os, h.tape.trans hf.tape, h.output.trans hf.output, Nat.le_trans hf.size h.size, fun k hk => (h.block k (Nat.lt_of_lt_of_le hk hf.size) (by omega)).trans (hf.block k hk)⟩
theorem atR_rest {w : World} {b : Nat} {s s' : ByteArray} {e e' : Int} (h : atR w b s e) : atR ((w.setCell ⟨b, 0, none⟩ (.string s')).setCell ⟨b, 1, none⟩ (.int .i64 e')) b s' e' := by
  unfold atR at h ⊢
  simp [World.setCell, Array.getElem?_modify, h]
theorem after_ref {w wr W1 : World} {st : ByteArray} {er : Int} {o : Obj} (hA : Alike w wr st er) (hg : Fresh (wr.alloc o) W1) :
    atT W1 w.heap.size st er ∧ atR W1 (w.heap.size + 1) st er ∧ Fresh w W1 := by
  have h0 := atT_lt hA.t
  have h1 := atR_lt hA.r
  refine ⟨?_, ?_, (hA.fresh.alloc _).trans hg⟩
  · unfold atT
    rw [hg.block _ (by simp; omega), Below.heap_alloc _ _ _ h0]; exact hA.t
  · unfold atR
    rw [hg.block _ (by simp; omega), Below.heap_alloc _ _ _ h1]; exact hA.r
theorem after_store {w W1 : World} {st s1 : ByteArray} {er e1 : Int} {o : Obj} (ht : atT W1 w.heap.size st er) (hr : atR W1 (w.heap.size + 1) st er) (hf : Fresh w W1) :
    atT (((W1.setCell ⟨w.heap.size + 1, 0, none⟩ (.string s1)).setCell ⟨w.heap.size + 1, 1, none⟩ (.int .i64 e1)).alloc o) w.heap.size st er ∧
    atR (((W1.setCell ⟨w.heap.size + 1, 0, none⟩ (.string s1)).setCell ⟨w.heap.size + 1, 1, none⟩ (.int .i64 e1)).alloc o) (w.heap.size + 1) s1 e1 ∧
    Fresh w (((W1.setCell ⟨w.heap.size + 1, 0, none⟩ (.string s1)).setCell ⟨w.heap.size + 1, 1, none⟩ (.int .i64 e1)).alloc o) := by
  have h0 := atT_lt ht
  have h1 := atR_lt hr
  refine ⟨?_, ?_, ((hf.setCell (by simp) _).setCell (by simp) _).alloc _⟩
  · unfold atT
    rw [Below.heap_alloc _ _ _ (by simpa [World.setCell] using h0), Below.heap_setCell _ _ _ _ (by simp), Below.heap_setCell _ _ _ _ (by simp)]; exact ht
  · unfold atR
    rw [Below.heap_alloc _ _ _ (by simpa [World.setCell] using h1)]
    exact atR_rest hr
theorem after_take {w W2 W3 : World} {s1 : ByteArray} {e1 : Int} (hr : atR W2 (w.heap.size + 1) s1 e1) (hf : Fresh w W2) (hm : Moved w.heap.size W2 W3 s1 e1) (hl : s1.size ≤ 6000) : SomeAlike w W3 :=
  ⟨s1, e1, hm.isT, by unfold atR; rw [hm.block _ (atR_lt hr) (by omega)]; exact hr, hl, Moved.below hf hm (Nat.le_refl _)⟩
theorem tint_of {b : Nat} {s s1 : ByteArray} {e e1 v : Int} (w : World) (hs : s.size ≤ maxLen) (ht : atT w b s e) (h : takeT s e 8 = (s1, e1, v)) :
    Calls Try.prog 16 #[.pointer (some ⟨b, 0, none⟩)] w fun r w' => r = .returned (.int .i64 (wrap64 v)) ∧ Moved b w w' s1 e1 := by
  have := tint_any b s e w hs ht
  rw [h] at this
  exact this
theorem tflag_at {b : Nat} {s s1 : ByteArray} {e e1 : Int} {x : Bool} (w : World) (hs : s.size ≤ maxLen) (ht : atT w b s e) (h : flagT s e = (s1, e1, x)) :
    Calls Try.prog 18 #[.pointer (some ⟨b, 0, none⟩)] w fun r w' => r = .returned (.bool x) ∧ Moved b w w' s1 e1 := by
  have := tflag_any b s e w hs ht
  rw [h] at this
  exact this
theorem ttext_at {b : Nat} {s s1 : ByteArray} {e e1 : Int} {x : ByteArray} (w : World) (hs : s.size ≤ maxLen) (ht : atT w b s e) (h : textT s e = (s1, e1, x)) :
    Calls Try.prog 20 #[.pointer (some ⟨b, 0, none⟩)] w fun r w' => r = .returned (.string x) ∧ Moved b w w' s1 e1 := by
  have := ttext_any b s e w hs ht
  rw [h] at this
  exact this
theorem rflagT_at {s s1 : ByteArray} {e e1 : Int} {x : Bool} (w : World) (hs : s.size ≤ maxLen) (h : flagT s e = (s1, e1, x)) :
    Calls Try.prog 17 #[.agg #[.string s, .int .i64 e]] w fun r w' => r = .returned (.tuple #[.agg #[.string s1, .int .i64 e1], .bool x]) ∧ Fresh w w' := by
  have := rflagT_any s e w hs
  rw [h] at this
  exact this
theorem rtextT_at {s s1 : ByteArray} {e e1 : Int} {x : ByteArray} (w : World) (hs : s.size ≤ maxLen) (h : textT s e = (s1, e1, x)) :
    Calls Try.prog 19 #[.agg #[.string s, .int .i64 e]] w fun r w' => r = .returned (.tuple #[.agg #[.string s1, .int .i64 e1], .string x]) ∧ Fresh w w' := by
  have := rtextT_any s e w hs
  rw [h] at this
  exact this
theorem flag_len {s s1 : ByteArray} {e e1 : Int} {x : Bool} (h : flagT s e = (s1, e1, x)) : s1.size ≤ s.size := by
  have hl := take_len (s := s) (e := e) (n := 1) rfl
  unfold flagT at h
  split at h
  · simp only [Prod.mk.injEq] at h; rw [← h.1]; exact Nat.le_refl _
  · simp only [Prod.mk.injEq] at h; rw [← h.1]; exact hl
theorem text_len {s s1 : ByteArray} {e e1 : Int} {x : ByteArray} (h : textT s e = (s1, e1, x)) : s1.size ≤ s.size := by
  have hl := take_len (s := s) (e := e) (n := 2) rfl
  unfold textT at h
  split at h
  · simp only [Prod.mk.injEq] at h; rw [← h.1]; exact hl
  split at h
  · simp only [Prod.mk.injEq] at h; rw [← h.1]; exact Nat.le_refl _
  split at h
  · simp only [Prod.mk.injEq] at h; rw [← h.1]; exact Nat.le_refl _
  · simp only [Prod.mk.injEq] at h; rw [← h.1]; exact Nat.le_trans (extract_size_le _ _ _) hl
theorem tend_cells (b : Nat) (s : ByteArray) (e : Int) (w : World) (hc0 : w.cell? ⟨b, 0, none⟩ = some (.string s)) (hc1 : w.cell? ⟨b, 1, none⟩ = some (.int .i64 e)) :
    Calls Try.prog 21 #[.pointer (some ⟨b, 0, none⟩)] w fun r w' => r = .returned (.int .i64 (endT s e)) ∧ w = w' := by
  by_cases h : e = 0
  · subst h
    by_cases h2 : s.size = 0
    · obtain rfl : s = ⟨#[]⟩ := ByteArray.ext (Array.eq_empty_of_size_eq_zero h2)
      clear h2
      go_enter Try.func21, Try.ntmps21
      go_wp2
      go_ret
      exact ⟨rfl, rfl⟩
    · have HF : Hid (endT s 0 = 6) := by unfold endT; rw [if_pos ⟨rfl, h2⟩]; exact rfl
      have hb : s.toList.isEmpty = false := toList_some h2
      go_enter Try.func21, Try.ntmps21
      go_wp2
      go_ret
      exact ⟨by rw [HF.out]; rfl, rfl⟩
  · have HF : Hid (endT s e = e) := by unfold endT; rw [if_neg (fun k => h k.1)]; exact rfl
    have hne : (e == 0) = false := by simpa using h
    go_enter Try.func21, Try.ntmps21
    go_wp2
    go_ret
    exact ⟨by rw [HF.out]; rfl, rfl⟩
theorem after_end {w wc W1 : World} {st : ByteArray} {er : Int} (hA : Alike w wc st er) (hg : Fresh wc.drew W1) : SomeAlike w W1 := by
  have h0 := atT_lt hA.t
  have h1 := atR_lt hA.r
  refine ⟨st, er, ?_, ?_, hA.len, hA.fresh.drew.trans hg⟩
  · unfold atT
    rw [hg.block _ h0]; exact hA.t
  · unfold atR
    rw [hg.block _ h1]; exact hA.r
theorem at_start (w : World) (s : ByteArray) (hs : s.size ≤ 6000) : SomeAlike w ((w.alloc (.cells #[.string s, .int .i64 0] 35)).alloc (.cells #[.string s, .int .i64 0] 37)) := by
  refine ⟨s, 0, ?_, ?_, hs, ((Fresh.refl _).alloc _).alloc _⟩
  · unfold atT
    rw [Below.heap_alloc _ _ _ (by simp), heap_alloc_new]
  · unfold atR
    have := heap_alloc_new (w.alloc (.cells #[.string s, .int .i64 0] 35)) (.cells #[.string s, .int .i64 0] 37)
    simpa using this
theorem cell_lt {w : World} {b o : Nat} {v : Value} (h : w.cell? ⟨b, o, none⟩ = some v) : b < w.heap.size := by
  apply Classical.byContradiction
  intro hn
  have : w.heap[b]? = none := by simp; omega
  simp [World.cell?, this] at h
/-- The acts, as they came in. -/
def IsActs (w : World) (b off len : Nat) (kd : Nat → Int) (nm : Nat → Int) : Prop :=
  ∀ i, i < len → w.cell? ⟨b, off + i * 2, none⟩ = some (.int .u8 (kd i)) ∧ w.cell? ⟨b, off + i * 2 + 1, none⟩ = some (.int .i64 (nm i)) ∧ 0 ≤ kd i ∧ kd i ≤ 255
set_option maxRecDepth 100000 in
set_option maxHeartbeats 1000000 in
theorem walk_main (s : ByteArray) (b off len cap : Nat) (kd nm : Nat → Int) (w : World) (hs : s.size ≤ 6000) (hl : len ≤ 60) (ha : IsActs w b off len kd nm) :
    Calls Try.prog 4 #[.string s, .slice (some ⟨b, off, none⟩) len cap] w fun e w' => e = .returned (.bool true) ∧ Fresh w w' := by
  have HA := Lib.hid ha; clear ha
  go_enter Try.func4, Try.ntmps4
  go_wp2_with fail
  go_loopg [33] len (fun g i wr => ∃ k : Nat, k + g = len ∧ i = .int .i64 k ∧ SomeAlike w wr)
  case atStart => exact ⟨0, by omega, rfl, at_start w s hs⟩
  case round =>
    obtain ⟨k, hk, rfl, st, er, hA⟩ := hrel
    by_cases hlt : k < len
    · obtain ⟨hk0, hk1, hk2, hk3⟩ := HA.out k hlt
      have hb := cell_lt hk0
      have c0 : wr.cell? ⟨b, off + k * 2, none⟩ = some (.int .u8 (kd k)) := by rw [Below.cell hA.fresh (p := ⟨b, off + k * 2, none⟩) hb]; exact hk0
      have c1 : wr.cell? ⟨b, off + k * 2 + 1, none⟩ = some (.int .i64 (nm k)) := by rw [Below.cell hA.fresh (p := ⟨b, off + k * 2 + 1, none⟩) hb]; exact hk1
      clear hk0 hk1
      have Hk := Lib.hid hk
      clear hk
      go_upto_block 2 with (fail)
      go_cut [33] (fun i wc => i = .int .i64 k ∧ SomeAlike w wc)
      case first =>
        have hml : st.size ≤ maxLen := by have := hA.len; unfold maxLen; omega
        have z0 := atT_lt hA.t
        have z1 := atR_lt hA.r
        obtain ⟨m0, m1, g0, g1⟩ := atR_facts hA.r
        generalize kd k = q at *
        generalize nm k = n at *
        by_cases q0 : q = 0
        · subst q0
          obtain ⟨s1, e1, v, hT⟩ : ∃ s1 e1 v, takeT st er n = (s1, e1, v) := ⟨_, _, _, rfl⟩
          have HT := Lib.hid hT
          have hl1 := take_len hT
          clear hT 
          go_wp2_with fail
          refine (rtake_at _ hml HT.out).mono ?_
          rintro r W1 ⟨rfl, hg⟩
          obtain ⟨ht1, hr1, hf1⟩ := after_ref hA hg
          obtain ⟨x0, x1, y0, y1⟩ := atR_facts hr1
          have xa : W1.cell? ⟨wr.heap.size, 1, none⟩ = some (.int .i64 n) := by rw [cell_past hg (by simp)]; simp [go_sem]
          have xz : wr.heap.size < W1.heap.size := by have := hg.size; simp at this; omega
          have xz1 := atR_lt hr1
          go_wp2_with fail
          refine (take_at _ hml (by exact (after_store ht1 hr1 hf1).1) HT.out).mono ?_
          rintro r W3 ⟨rfl, hm⟩
          have hfin : SomeAlike w W3 := after_take (after_store ht1 hr1 hf1).2.1 (after_store ht1 hr1 hf1).2.2 hm (Nat.le_trans hl1 hA.len)
          clear m0 m1 g0 g1 x0 x1 y0 y1 xa
          go_wp2_with fail
          go_meet
          case rel => exact ⟨rfl, hfin⟩
        by_cases q1 : q = 1
        · subst q1
          obtain ⟨s1, e1, v, hT⟩ : ∃ s1 e1 v, takeT st er 8 = (s1, e1, v) := ⟨_, _, _, rfl⟩
          have HT := Lib.hid hT
          have hl1 := take_len hT
          clear hT q0
          go_wp2_with fail
          refine (rtake_at _ hml HT.out).mono ?_
          rintro r W1 ⟨rfl, hg⟩
          obtain ⟨ht1, hr1, hf1⟩ := after_ref hA hg
          obtain ⟨x0, x1, y0, y1⟩ := atR_facts hr1
          have xa : W1.cell? ⟨wr.heap.size, 1, none⟩ = some (.int .i64 n) := by rw [cell_past hg (by simp)]; simp [go_sem]
          have xz : wr.heap.size < W1.heap.size := by have := hg.size; simp at this; omega
          have xz1 := atR_lt hr1
          go_wp2_with fail
          refine (tint_of _ hml (by exact (after_store ht1 hr1 hf1).1) HT.out).mono ?_
          rintro r W3 ⟨rfl, hm⟩
          have hfin : SomeAlike w W3 := after_take (after_store ht1 hr1 hf1).2.1 (after_store ht1 hr1 hf1).2.2 hm (Nat.le_trans hl1 hA.len)
          clear m0 m1 g0 g1 x0 x1 y0 y1 xa
          go_wp2_with fail
          go_meet
          case rel => exact ⟨rfl, hfin⟩
        by_cases q2 : q = 2
        · subst q2
          obtain ⟨s1, e1, v, hT⟩ : ∃ s1 e1 v, flagT st er = (s1, e1, v) := ⟨_, _, _, rfl⟩
          have HT := Lib.hid hT
          have hl1 := flag_len hT
          clear hT q0 q1
          go_wp2_with fail
          refine (rflagT_at _ hml HT.out).mono ?_
          rintro r W1 ⟨rfl, hg⟩
          obtain ⟨ht1, hr1, hf1⟩ := after_ref hA hg
          obtain ⟨x0, x1, y0, y1⟩ := atR_facts hr1
          have xa : W1.cell? ⟨wr.heap.size, 1, none⟩ = some (.int .i64 n) := by rw [cell_past hg (by simp)]; simp [go_sem]
          have xz : wr.heap.size < W1.heap.size := by have := hg.size; simp at this; omega
          have xz1 := atR_lt hr1
          go_wp2_with fail
          refine (tflag_at _ hml (by exact (after_store ht1 hr1 hf1).1) HT.out).mono ?_
          rintro r W3 ⟨rfl, hm⟩
          have hfin : SomeAlike w W3 := after_take (after_store ht1 hr1 hf1).2.1 (after_store ht1 hr1 hf1).2.2 hm (Nat.le_trans hl1 hA.len)
          clear m0 m1 g0 g1 x0 x1 y0 y1 xa
          go_wp2_with fail
          go_meet
          case rel => exact ⟨rfl, hfin⟩
        by_cases q3 : q = 3
        · subst q3
          obtain ⟨s1, e1, v, hT⟩ : ∃ s1 e1 v, textT st er = (s1, e1, v) := ⟨_, _, _, rfl⟩
          have HT := Lib.hid hT
          have hl1 := text_len hT
          clear hT q0 q1 q2
          go_wp2_with fail
          refine (rtextT_at _ hml HT.out).mono ?_
          rintro r W1 ⟨rfl, hg⟩
          obtain ⟨ht1, hr1, hf1⟩ := after_ref hA hg
          obtain ⟨x0, x1, y0, y1⟩ := atR_facts hr1
          have xa : W1.cell? ⟨wr.heap.size, 1, none⟩ = some (.int .i64 n) := by rw [cell_past hg (by simp)]; simp [go_sem]
          have xz : wr.heap.size < W1.heap.size := by have := hg.size; simp at this; omega
          have xz1 := atR_lt hr1
          go_wp2_with fail
          refine (ttext_at _ hml (by exact (after_store ht1 hr1 hf1).1) HT.out).mono ?_
          rintro r W3 ⟨rfl, hm⟩
          have hfin : SomeAlike w W3 := after_take (after_store ht1 hr1 hf1).2.1 (after_store ht1 hr1 hf1).2.2 hm (Nat.le_trans hl1 hA.len)
          clear m0 m1 g0 g1 x0 x1 y0 y1 xa
          go_wp2_with fail
          go_meet
          case rel => exact ⟨rfl, hfin⟩
        have b0 : (q == 0) = false := by simpa using q0
        have b1 : (q == 1) = false := by simpa using q1
        have b2 : (q == 2) = false := by simpa using q2
        have b3 : (q == 3) = false := by simpa using q3
        clear q0 q1 q2 q3
        obtain ⟨ht1, hr1, hf1⟩ := after_ref (o := .cells #[.int .u8 q, .int .i64 n] 39) hA (Fresh.refl _)
        have hfin : SomeAlike w (wr.alloc (.cells #[.int .u8 q, .int .i64 n] 39)) := ⟨st, er, ht1, hr1, hA.len, hf1⟩
        go_wp2_with fail
        go_meet
        case rel => exact ⟨rfl, hfin⟩
      case rest =>
        clear c0 c1 hA
        obtain ⟨rfl, s2, e2, hA⟩ := hcut
        have z0 := atT_lt hA.t
        have z1 := atR_lt hA.r
        obtain ⟨t0, t1, _, _⟩ := atT_facts hA.t
        obtain ⟨m0, m1, _, _⟩ := atR_facts hA.r
        go_wp2_with fail
        go_region_held3 (fun w' => w'.cell? ⟨w.heap.size, 0, none⟩ = some (.string s2) ∧ w'.cell? ⟨w.heap.size, 1, none⟩ = some (.int .i64 e2) ∧ w'.cell? ⟨w.heap.size + 1, 0, none⟩ = some (.string s2) ∧ w'.cell? ⟨w.heap.size + 1, 1, none⟩ = some (.int .i64 e2)) (go_keep)
          (first | (go_at_call 21; refine (tend_cells _ s2 e2 _ ?_ ?_).mono ?_; (exact t0); (exact t1); rintro e w' ⟨rfl, rfl⟩) | (go_at_call 22; refine (rend_any _ _ _).mono ?_; rintro e W' ⟨rfl, hg⟩; have k0 : W'.cell? ⟨w.heap.size, 0, none⟩ = some (.string s2) := (cell_past hg z0).trans t0; have k1 : W'.cell? ⟨w.heap.size, 1, none⟩ = some (.int .i64 e2) := (cell_past hg z0).trans t1; have k2 : W'.cell? ⟨w.heap.size + 1, 0, none⟩ = some (.string s2) := (cell_past hg z1).trans m0; have k3 : W'.cell? ⟨w.heap.size + 1, 1, none⟩ = some (.int .i64 e2) := (cell_past hg z1).trans m1))
        have hfin : SomeAlike w W' := after_end hA hg
        clear k0 k1 k2 k3 t0 t1 m0 m1 hg
        go_wp2_with fail
        go_roundg (gk - 1)
        case measure => have := Hk.out; omega
        case rel => exact ⟨k + 1, by have := Hk.out; omega, by go_num, hfin⟩
    · have hkl : len ≤ k := by omega
      have hfr := hA.fresh
      go_wp2_with fail
      refine (awake_true _).mono ?_
      rintro e W1 ⟨rfl, hg⟩
      go_wp2
      go_ret
      exact ⟨rfl, hfr.trans hg⟩

set_option maxRecDepth 100000 in
theorem walk_none (s : ByteArray) (a : Option Addr) (cap : Nat) (w : World) (hs : s.size ≤ 6000) :
    Calls Try.prog 4 #[.string s, .slice a 0 cap] w fun e w' => e = .returned (.bool true) ∧ Fresh w w' := by
  go_enter Try.func4, Try.ntmps4
  go_wp2_with fail
  go_loopg [33] 0 (fun g i wr => i = .int .i64 0 ∧ SomeAlike w wr)
  case atStart => exact ⟨rfl, at_start w s hs⟩
  case round =>
    obtain ⟨rfl, st, er, hA⟩ := hrel
    have hfr := hA.fresh
    go_wp2_with fail
    refine (awake_true _).mono ?_
    rintro e W1 ⟨rfl, hg⟩
    go_wp2
    go_ret
    exact ⟨rfl, hfr.trans hg⟩
theorem walk_long (s : ByteArray) (a : Option Addr) (len cap : Nat) (w : World) (h : 6000 < s.size) :
    Calls Try.prog 4 #[.string s, .slice a len cap] w fun e w' => e = .returned (.bool true) ∧ Fresh w w' := by
  go_enter Try.func4, Try.ntmps4
  go_wp2_with fail
  refine (awake_true _).mono ?_
  rintro e W1 ⟨rfl, hg⟩
  go_wp2
  go_ret
  exact ⟨rfl, hg⟩
theorem walk_many (s : ByteArray) (a : Option Addr) (len cap : Nat) (w : World) (hs : s.size ≤ 6000) (h : 60 < len) :
    Calls Try.prog 4 #[.string s, .slice a len cap] w fun e w' => e = .returned (.bool true) ∧ Fresh w w' := by
  go_enter Try.func4, Try.ntmps4
  go_wp2_with fail
  refine (awake_true _).mono ?_
  rintro e W1 ⟨rfl, hg⟩
  go_wp2
  go_ret
  exact ⟨rfl, hg⟩

theorem addr_add (b off n : Nat) : (⟨b, off, none⟩ : Addr).add n = ⟨b, off + n, none⟩ := by
  unfold Addr.add
  split <;> simp_all
theorem cells39 : Try.prog.cellsOf 39 = 2 := by kernel_rfl
theorem cells5' : Try.prog.cellsOf 5 = 1 := by kernel_rfl
theorem cells3 : Try.prog.cellsOf 3 = 1 := by kernel_rfl

theorem walk_slice {H : Type} {enc : TypeId × Value → H} (a0 : ByteArray) (a1 : Option Addr) (len cap : Nat) (W : World) {d : DataW H} {p : List MemPlace} (h1 : DataW.Trod enc Try.prog W 0 (fun _ => true) true 32 (.slice a1 len cap) d p) :
    Calls Try.prog 4 #[.string a0, .slice a1 len cap] W fun e w' => e = .returned (.bool true) ∧ Fresh W w' := by
  by_cases hs : a0.size ≤ 6000
  · by_cases hl : len ≤ 60
    · by_cases hz : len = 0
      · subst hz
        exact walk_none a0 a1 cap W hs
      · obtain ⟨fuel, hf⟩ := h1
        rcases Go.Deep.open_slice_pairs Try.underlying32 Try.underlying39 cells39 rfl rfl cells5' cells3 hf with ⟨hcs, _⟩ | ⟨x, l, c, m, n, V0, V1, D0, D1, P0, P1, hcs, _, hlc, _, hm, _, hcell⟩
        · simp [Value.cells] at hcs
          omega
        · simp [Value.cells] at hcs
          obtain ⟨h2, h3, h4⟩ := hcs
          simp only [if_true] at hm
          obtain ⟨b, off, spot⟩ := x
          obtain rfl : spot = none := by
            have := World.cell?_spot (hcell 0 (by omega)).1
            simpa [Addr.add] using this
          rw [h2]
          refine walk_main a0 b off len cap (fun i => intOf (V0 i)) (fun i => intOf (V1 i)) W hs hl (fun i hi => ?_)
          obtain ⟨g0, g1, g2, g3⟩ := hcell i (by omega)
          obtain ⟨x0, hx0, _, hw0⟩ := DataW.trod_int Try.underlying5 g2
          obtain ⟨x1, hx1, _, hw1⟩ := DataW.trod_int Try.underlying3 g3
          simp only [List.cons.injEq, and_true] at hx0 hx1
          have hb : 0 ≤ x0 ∧ x0 ≤ 255 := by simpa [Lit.wf, IntKind.min, IntKind.max, IntKind.signed, IntKind.bits] using hw0
          refine ⟨?_, ?_, ?_, ?_⟩
          · dsimp only; rw [hx0]; rw [hx0] at g0; rw [addr_add] at g0; exact g0
          · dsimp only; rw [hx1]; rw [hx1] at g1; rw [addr_add, ← Nat.add_assoc] at g1; exact g1
          · dsimp only; rw [hx0]; exact hb.1
          · dsimp only; rw [hx0]; exact hb.2
    · exact walk_many a0 a1 len cap W hs (by omega)
  · exact walk_long a0 a1 len cap W (by omega)

/-! ### From the walk to the row -/
set_option maxRecDepth 100000 in
theorem lifted (os : Os) (started : os.Started) (H : Type) (enc : TypeId × Value → H) :
    ReturnsInHanded {} Try.checked os 4 .any (Rows.packTakesSpec.pre6 enc Try.prog Try.f4 Rows.packTakesRow.domain false) (Rows.packTakesSpec.post enc Try.prog Try.f4 false true false false) := by
  refine returnsInHanded_of_change (C := Try.checked) own started (by kernel_rfl) Try.func4
    (ChangeSpec.witness6 (enc := enc) (C := Try.checked) false ⟨#[], #[.string ByteArray.empty, .slice none 0 0], []⟩ 8 (by kernel_rfl) (by kernel_rfl) (by kernel_rfl) (by kernel_rfl)) ?_
  intro W base args ds gs before hval0 hW hcnd _
  have hval : ∀ (j : Nat) t v, Try.f4.params[j]? = some t → args[j]? = some v → Value.okWide Try.prog W .any base t v := hval0
  have hW' := hW
  obtain ⟨p, q, hA0, hV, rfl, hfz, hnd⟩ := hW
  have hA : DataW.TrodAll enc Try.prog W 0 (fun _ => true) true Try.f4.params.toList args.toList ds p := hA0
  rw [Try.params4] at hA hval
  obtain ⟨v0, vs0, d0, ds0, p0, q0, hargs, rfl, rfl, h0, r0⟩ := trodAll_cons hA
  obtain ⟨v1, vs1, d1, ds1, p1, q1, rfl, rfl, rfl, h1, r1⟩ := trodAll_cons r0
  obtain ⟨rfl, rfl, rfl⟩ := trodAll_nil r1
  obtain rfl : args = #[v0, v1] := by cases args; simp_all
  obtain ⟨rfl, rfl⟩ := trodVars_none hV
  obtain ⟨a0, rfl, rfl, rfl, w0⟩ := open_string Try.underlying9 (hval 0 9 v0 rfl rfl) h0
  obtain ⟨a1, len, cap, rfl⟩ := okWide_slice Try.underlying32 (hval 1 32 v1 rfl rfl)
  have k1 := h1
  have lt1 : ∀ x ∈ p1, x.block < W.heap.size := by obtain ⟨m, hm⟩ := k1; exact DataW.trod_lt m _ _ _ hm
  have hwalk := walk_slice a0 a1 len cap W h1
  clear hA0 hval0
  refine hwalk.mono fun e W' ⟨he, hg⟩ => ?_
  subst he
  exact ⟨_, rfl, _, _, _, [], _, [], hW', trodAll_mk1 (shut_bool Try.underlying4 _), (trodAll_cons_mk (shut_string Try.underlying9 w0) (trodAll_cons_mk (Below.trod laidOut (by kernel_rfl) (of_decide_eq_true (by kernel_rfl)) k1 hg lt1) trodAll_mk0)), rfl, Below.frame hg _, fun h => by cases h⟩

theorem over : Rows.packTakesRow.holds Try.pinned (OpenSpec.ofChange Rows.packTakesSpec) :=
  OpenClaim.holds_of_wide 4 Try.f4 rfl rfl rfl rfl rfl rfl rfl ⟨rfl, rfl, rfl, rfl, rfl⟩ rfl rfl rfl rfl rfl (by kernel_rfl) Try.func4 (by kernel_rfl)
    (of_decide_eq_true (by kernel_rfl)) (by unfold Func.isWrapper; first | (rw [if_pos (by decide +kernel)]; kernel_rfl) | (rw [if_neg (by decide +kernel)]; exact ⟨rfl, rfl⟩))
    (fun os started H enc _ => lifted os started H enc)

theorem packTakes_holds : Rows.PackTakesSaid :=
  over
#print axioms packTakes_holds
end Go.Proofs.Ytpnhbgidoafklaa.packTakes
