/-
  What the document's own TakeFlag, TakeText and End (package bosunref02) come to: for every Taker whose text is of a length that Go allows; nothing that was there turns.
-/
import Derived.Test.YtphjhlnjfcfdcaaRTake
import Derived.RegionTactic
namespace Go.Proofs.Ytphjhlnjfcfdcaa
open Go.ChangeShapes Go.WideShapes Go.ChangeAt Go.RowKit
set_option maxRecDepth 100000
theorem rtake_at {s s1 : ByteArray} {e n e1 v : Int} (w : World) (hs : s.size ≤ maxLen) (h : takeT s e n = (s1, e1, v)) :
    Calls Try.prog 50 #[.agg #[.string s, .int .i64 e], .int .i64 n] w fun r w' => r = .returned (.tuple #[.agg #[.string s1, .int .i64 e1], .int .u64 v]) ∧ Fresh w w' := by
  have := rtake_any s e n w hs
  rw [h] at this
  exact this
theorem take_err {s s1 : ByteArray} {e n e1 v : Int} (h : takeT s e n = (s1, e1, v)) (hv : v ≠ 0) : e1 = 0 := by
  unfold takeT at h
  split at h
  · simp at h; omega
  split at h
  · simp at h; omega
  split at h
  · simp at h; omega
  · simp only [Prod.mk.injEq] at h; omega
theorem cell_past {w w' : World} (h : Fresh w w') {b o : Nat} (hb : b < w.heap.size) : w'.cell? ⟨b, o, none⟩ = w.cell? ⟨b, o, none⟩ := Below.cell h (p := ⟨b, o, none⟩) hb
theorem frozen_past {w w' : World} (h : Fresh w w') {b o : Nat} (hb : b < w.heap.size) : w'.frozen? ⟨b, o, none⟩ = w.frozen? ⟨b, o, none⟩ := Below.frozen h (p := ⟨b, o, none⟩) hb
/-- Two boxes that a call has laid, read behind another call. -/
structure Boxes (w w1 : World) (a0 a1 b0 b1 : Value) : Prop where
  c10 : w1.cell? ⟨w.heap.size, 0, none⟩ = some a0
  c11 : w1.cell? ⟨w.heap.size, 1, none⟩ = some a1
  c20 : w1.cell? ⟨w.heap.size + 1, 0, none⟩ = some b0
  c21 : w1.cell? ⟨w.heap.size + 1, 1, none⟩ = some b1
  f10 : w1.frozen? ⟨w.heap.size, 0, none⟩ = false
  f11 : w1.frozen? ⟨w.heap.size, 1, none⟩ = false
  f20 : w1.frozen? ⟨w.heap.size + 1, 0, none⟩ = false
  f21 : w1.frozen? ⟨w.heap.size + 1, 1, none⟩ = false
  z0 : w.heap.size < w1.heap.size
  z1 : w.heap.size + 1 < w1.heap.size
  fresh : Fresh w w1
theorem boxes {w w1 : World} {a0 a1 b0 b1 : Value} (hg : Fresh ((w.alloc (.cells #[a0, a1] 89)).alloc (.cells #[b0, b1] 89)) w1) : Boxes w w1 a0 a1 b0 b1 := by
  have c10 := cell_past hg (b := w.heap.size) (o := 0) (by simp; omega)
  have c11 := cell_past hg (b := w.heap.size) (o := 1) (by simp; omega)
  have c20 := cell_past hg (b := w.heap.size + 1) (o := 0) (by simp)
  have c21 := cell_past hg (b := w.heap.size + 1) (o := 1) (by simp)
  have f10 := frozen_past hg (b := w.heap.size) (o := 0) (by simp; omega)
  have f11 := frozen_past hg (b := w.heap.size) (o := 1) (by simp; omega)
  have f20 := frozen_past hg (b := w.heap.size + 1) (o := 0) (by simp)
  have f21 := frozen_past hg (b := w.heap.size + 1) (o := 1) (by simp)
  simp [go_sem] at c10 c11 c20 c21 f10 f11 f20 f21
  have hz : w.heap.size + 1 < w1.heap.size := by have := hg.size; simp at this; omega
  exact ⟨c10, c11, c20, c21, f10, f11, f20, f21, by omega, hz, (((Fresh.refl _).alloc _).alloc _).trans hg⟩
set_option maxRecDepth 100000 in
set_option maxHeartbeats 2000000 in
theorem rtextT_any (s : ByteArray) (e : Int) (w : World) (hs : s.size ≤ maxLen) :
    Calls Try.prog 51 #[.agg #[.string s, .int .i64 e]] w fun r w' => r = .returned (.tuple #[.agg #[.string (textT s e).1, .int .i64 (textT s e).2.1], .string (textT s e).2.2]) ∧ Fresh w w' := by
  have hv := take_val s e 2
  obtain ⟨s1, e1, v, hT⟩ : ∃ s1 e1 v, takeT s e 2 = (s1, e1, v) := ⟨_, _, _, rfl⟩
  rw [show ((2 : Nat) : Int) = 2 from rfl, hT] at hv
  obtain ⟨hv0, hv1⟩ : 0 ≤ v ∧ v < 65536 := hv
  have hl := take_len hT
  have hF : textT s e = if e1 ≠ 0 then (s1, e1, ⟨#[]⟩) else if 4096 < v then (s, 2, ⟨#[]⟩) else if (s1.size : Int) < v then (s, 1, ⟨#[]⟩) else (s1.extract v.toNat s1.size, 0, s1.extract 0 v.toNat) := by simp only [textT, hT]
  have HT := Lib.hid hT
  have hs' := hs
  unfold maxLen at hs'
  obtain ⟨n, rfl⟩ := Int.eq_ofNat_of_zero_le hv0
  clear hT
  by_cases h1 : e1 = 0
  · subst h1
    rw [if_neg (by simp)] at hF
    by_cases h2 : 4096 < (n : Int)
    · rw [hF, if_pos h2]
      clear hF
      go_enter Try.func51, Try.ntmps51
      go_wp2_with fail
      refine (rtake_at _ hs HT.out).mono ?_
      rintro r w1 ⟨rfl, hg⟩
      obtain ⟨c10, c11, c20, c21, f10, f11, f20, f21, z0, z1, hfr⟩ := boxes hg
      clear hg
      go_wp2
      exact bodyPost_ret (v := .tuple #[.agg #[.string s, .int .i64 2], .string ⟨#[]⟩]) (by simp [results, Try.results51, go_sem, c20, c21, z1]) rfl ⟨rfl, (((hfr.setCell (by simp) _).setCell (by simp) _).setCell (by simp) _).alloc _⟩
    · rw [if_neg h2] at hF
      have h2' : n ≤ 4096 := by omega
      clear hv0 hv1 h2
      by_cases h3 : (s1.size : Int) < n
      · rw [hF, if_pos h3]
        have h3' : s1.size < n := by omega
        clear hF h3
        go_enter Try.func51, Try.ntmps51
        go_wp2_with fail
        refine (rtake_at _ hs HT.out).mono ?_
        rintro r w1 ⟨rfl, hg⟩
        obtain ⟨c10, c11, c20, c21, f10, f11, f20, f21, z0, z1, hfr⟩ := boxes hg
        clear hg
        go_wp2
        exact bodyPost_ret (v := .tuple #[.agg #[.string s, .int .i64 1], .string ⟨#[]⟩]) (by simp [results, Try.results51, go_sem, c20, c21, z1]) rfl ⟨rfl, (((hfr.setCell (by simp) _).setCell (by simp) _).setCell (by simp) _).alloc _⟩
      · rw [hF, if_neg h3]
        have hle : n ≤ s1.size := by omega
        clear hF h3
        go_enter Try.func51, Try.ntmps51
        go_wp2_with fail
        refine (rtake_at _ hs HT.out).mono ?_
        rintro r w1 ⟨rfl, hg⟩
        obtain ⟨c10, c11, c20, c21, f10, f11, f20, f21, z0, z1, hfr⟩ := boxes hg
        clear hg
        go_wp2
        go_region
        all_goals
          go_wp2
          exact bodyPost_ret (v := .tuple #[.agg #[.string (s1.extract n s1.size), .int .i64 0], .string (s1.extract 0 n)]) (by simp [results, Try.results51, go_sem, c20, c21, z1]) rfl ⟨rfl, (((hfr.setCell (by simp) _).setCell (by simp) _).alloc _).drew⟩
  · rw [hF, if_pos h1]
    have hne : (e1 != 0) = true := by simpa using h1
    clear hF h1
    go_enter Try.func51, Try.ntmps51
    go_wp2_with fail
    refine (rtake_at _ hs HT.out).mono ?_
    rintro r w1 ⟨rfl, hg⟩
    obtain ⟨c10, c11, c20, c21, f10, f11, f20, f21, z0, z1, hfr⟩ := boxes hg
    clear hg
    go_wp2
    exact bodyPost_ret (v := .tuple #[.agg #[.string s1, .int .i64 e1], .string ⟨#[]⟩]) (by simp [results, Try.results51, go_sem, c20, c21, z1]) rfl ⟨rfl, ((hfr.setCell (by simp) _).setCell (by simp) _).alloc _⟩
theorem rend_any (s : ByteArray) (e : Int) (w : World) :
    Calls Try.prog 52 #[.agg #[.string s, .int .i64 e]] w fun r w' => r = .returned (.int .i64 (endT s e)) ∧ Fresh w w' := by
  by_cases h : e = 0
  · subst h
    by_cases h2 : s.size = 0
    · obtain rfl : s = ⟨#[]⟩ := ByteArray.ext (Array.eq_empty_of_size_eq_zero h2)
      clear h2
      go_enter Try.func52, Try.ntmps52
      go_wp2
      go_ret
      exact ⟨rfl, (Fresh.refl _).alloc _⟩
    · have HF : Hid (endT s 0 = 6) := by unfold endT; rw [if_pos ⟨rfl, h2⟩]; exact rfl
      have hb : s.toList.isEmpty = false := toList_some h2
      go_enter Try.func52, Try.ntmps52
      go_wp2
      go_ret
      exact ⟨by rw [HF.out]; rfl, (Fresh.refl _).alloc _⟩
  · have HF : Hid (endT s e = e) := by unfold endT; rw [if_neg (fun k => h k.1)]; exact rfl
    have hne : (e == 0) = false := by simpa using h
    go_enter Try.func52, Try.ntmps52
    go_wp2
    go_ret
    exact ⟨by rw [HF.out]; rfl, (Fresh.refl _).alloc _⟩
end Go.Proofs.Ytphjhlnjfcfdcaa
