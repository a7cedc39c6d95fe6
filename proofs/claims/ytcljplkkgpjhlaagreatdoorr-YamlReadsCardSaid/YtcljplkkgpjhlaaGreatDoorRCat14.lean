/-
  Parts of the proof: YRScal.
-/
import Derived.Test.YtcljplkkgpjhlaaGreatDoorRCat13
import Derived.Test.YtcljplkkgpjhlaaGreatDoorRCat09
import Derived.Test.YtcljplkkgpjhlaaGreatDoorRCat02
set_option maxRecDepth 100000
set_option maxHeartbeats 8000000
namespace Go.Proofs.YtcljplkkgpjhlaaGreatDoorR
namespace y
open Go.ChangeShapes Go.WideShapes Go.ChangeAt Go.RowKit
attribute [local go_sem ↓] Go.wp_at_zero Go.wp_at_succ
variable {w : World}
abbrev rval (k : Int) (f : Bool) (n : Int) (t : ByteArray) (x : Int) : Ending := .returned (.tuple #[.agg #[.int .i64 k, .bool f, .int .i64 n, .string t, .slice none 0 0, .slice none 0 0], .int .i64 x])
def RBox (w : World) (g : Nat) : Prop := w.heap[g]? = some (.cells zcells 36 (0, 0))
theorem RBox.facts {w : World} {g : Nat} (h : RBox w g) : VFacts w g :=
  ⟨cell_of_at h rfl, cell_of_at h rfl, cell_of_at h rfl, cell_of_at h rfl, cell_of_at h rfl, cell_of_at h rfl, fun i => by simp [World.frozen?, show w.heap[g]? = some (.cells zcells 36 (0, 0)) from h], v.lt_of_at h⟩
structure Names (s : ByteArray) (b1 b2 b3 b4 b5 : Bool) : Prop where
  e1 : (s.toList == [91, 93]) = b1
  e2 : (s.toList == [123, 125]) = b2
  e3 : (s.toList == [110, 117, 108, 108]) = b3
  e4 : (s.toList == [116, 114, 117, 101]) = b4
  e5 : (s.toList == [102, 97, 108, 115, 101]) = b5
theorem rscal_row_deep (s : ByteArray) (deep : Int) (w : World) (h : Names s true false false false false) (hd : 32 ≤ deep) : Calls Tryz.prog 59 #[.string s, .int .i64 deep] w fun e w' => e = rval 0 false 0 ⟨#[]⟩ 9 ∧ Fresh w w' := by
  obtain ⟨e1, e2, e3, e4, e5⟩ := h
  go_enter Tryz.func59, Tryz.ntmps59
  go_wp2
  exact bodyPost_ret (v := .tuple #[.agg #[.int .i64 0, .bool false, .int .i64 0, .string ⟨#[]⟩, .slice none 0 0, .slice none 0 0], .int .i64 9]) (by simp [results, Tryz.results59, go_sem]) rfl ⟨rfl, (Fresh.refl w).alloc _⟩
theorem rscal_row (s : ByteArray) (deep : Int) (w : World) (h : Names s true false false false false) (hd : ¬ 32 ≤ deep) : Calls Tryz.prog 59 #[.string s, .int .i64 deep] w fun e w' => e = rval 4 false 0 ⟨#[]⟩ 0 ∧ Fresh w w' := by
  obtain ⟨e1, e2, e3, e4, e5⟩ := h
  go_enter Tryz.func59, Tryz.ntmps59
  go_wp2
  exact bodyPost_ret (v := .tuple #[.agg #[.int .i64 4, .bool false, .int .i64 0, .string ⟨#[]⟩, .slice none 0 0, .slice none 0 0], .int .i64 0]) (by simp [results, Tryz.results59, go_sem]) rfl ⟨rfl, (Fresh.refl w).alloc _⟩
theorem rscal_map_deep (s : ByteArray) (deep : Int) (w : World) (h : Names s false true false false false) (hd : 32 ≤ deep) : Calls Tryz.prog 59 #[.string s, .int .i64 deep] w fun e w' => e = rval 0 false 0 ⟨#[]⟩ 9 ∧ Fresh w w' := by
  obtain ⟨e1, e2, e3, e4, e5⟩ := h
  go_enter Tryz.func59, Tryz.ntmps59
  go_wp2
  exact bodyPost_ret (v := .tuple #[.agg #[.int .i64 0, .bool false, .int .i64 0, .string ⟨#[]⟩, .slice none 0 0, .slice none 0 0], .int .i64 9]) (by simp [results, Tryz.results59, go_sem]) rfl ⟨rfl, (Fresh.refl w).alloc _⟩
theorem rscal_map (s : ByteArray) (deep : Int) (w : World) (h : Names s false true false false false) (hd : ¬ 32 ≤ deep) : Calls Tryz.prog 59 #[.string s, .int .i64 deep] w fun e w' => e = rval 5 false 0 ⟨#[]⟩ 0 ∧ Fresh w w' := by
  obtain ⟨e1, e2, e3, e4, e5⟩ := h
  go_enter Tryz.func59, Tryz.ntmps59
  go_wp2
  exact bodyPost_ret (v := .tuple #[.agg #[.int .i64 5, .bool false, .int .i64 0, .string ⟨#[]⟩, .slice none 0 0, .slice none 0 0], .int .i64 0]) (by simp [results, Tryz.results59, go_sem]) rfl ⟨rfl, (Fresh.refl w).alloc _⟩
theorem rscal_null (s : ByteArray) (deep : Int) (w : World) (h : Names s false false true false false)  : Calls Tryz.prog 59 #[.string s, .int .i64 deep] w fun e w' => e = rval 0 false 0 ⟨#[]⟩ 0 ∧ Fresh w w' := by
  obtain ⟨e1, e2, e3, e4, e5⟩ := h
  go_enter Tryz.func59, Tryz.ntmps59
  go_wp2
  exact bodyPost_ret (v := .tuple #[.agg #[.int .i64 0, .bool false, .int .i64 0, .string ⟨#[]⟩, .slice none 0 0, .slice none 0 0], .int .i64 0]) (by simp [results, Tryz.results59, go_sem]) rfl ⟨rfl, (Fresh.refl w).alloc _⟩
theorem rscal_true (s : ByteArray) (deep : Int) (w : World) (h : Names s false false false true false)  : Calls Tryz.prog 59 #[.string s, .int .i64 deep] w fun e w' => e = rval 1 true 0 ⟨#[]⟩ 0 ∧ Fresh w w' := by
  obtain ⟨e1, e2, e3, e4, e5⟩ := h
  go_enter Tryz.func59, Tryz.ntmps59
  go_wp2
  exact bodyPost_ret (v := .tuple #[.agg #[.int .i64 1, .bool true, .int .i64 0, .string ⟨#[]⟩, .slice none 0 0, .slice none 0 0], .int .i64 0]) (by simp [results, Tryz.results59, go_sem]) rfl ⟨rfl, (Fresh.refl w).alloc _⟩
theorem rscal_false (s : ByteArray) (deep : Int) (w : World) (h : Names s false false false false true)  : Calls Tryz.prog 59 #[.string s, .int .i64 deep] w fun e w' => e = rval 1 false 0 ⟨#[]⟩ 0 ∧ Fresh w w' := by
  obtain ⟨e1, e2, e3, e4, e5⟩ := h
  go_enter Tryz.func59, Tryz.ntmps59
  go_wp2
  exact bodyPost_ret (v := .tuple #[.agg #[.int .i64 1, .bool false, .int .i64 0, .string ⟨#[]⟩, .slice none 0 0, .slice none 0 0], .int .i64 0]) (by simp [results, Tryz.results59, go_sem]) rfl ⟨rfl, (Fresh.refl w).alloc _⟩
theorem rscal_q_bad (s : ByteArray) (deep : Int) (w : World) (h : Names s false false false false false) (hp : 0 < s.size) (h34 : s[0] = 34) (u : List UInt8 × Nat × Int) (hU : ∀ W : World, Calls Tryz.prog 61 #[.string s] W fun e w' => e = .returned (.tuple #[.string (tx u.1), .int .i64 (u.2.1 : Int), .int .i64 u.2.2]) ∧ Fresh W w') (hx : u.2.2 ≠ 0) : Calls Tryz.prog 59 #[.string s, .int .i64 deep] w fun e w' => e = rval 0 false 0 ⟨#[]⟩ u.2.2 ∧ Fresh w w' := by
  obtain ⟨e1, e2, e3, e4, e5⟩ := h
  obtain ⟨t0, n, x⟩ := u
  dsimp only at *
  have HU := Lib.hid hU
  have q2 : (0 : Int) < (s.size : Int) := by omega
  have gx : (x != 0) = true := by simpa using hx
  have HB : Hid (RBox (w.alloc (.cells zcells 36 (0, 0))) w.heap.size) := v.at_new w _
  have HF0 := Lib.hid ((Fresh.refl w).alloc (.cells zcells 36 (0, 0)))
  have HSZ : Hid (w.heap.size ≤ w.heap.size) := Nat.le_refl _
  clear hU
  go_enter Tryz.func59, Tryz.ntmps59
  go_wp2_with fail
  generalize w.alloc (.cells zcells 36 (0, 0)) = w0 at *
  generalize hsz : w.heap.size = sz at *
  refine (HU.out _).mono ?_
  rintro e w1 ⟨rfl, hf⟩
  obtain ⟨c0, c1, c2, c3, c4, c5, f, lt⟩ := (show RBox w1 sz from v.Fresh.at hf HB.out).facts
  have f0 := f 0; have f1 := f 1; have f2 := f 2; have f3 := f 3; have f4 := f 4; have f5 := f 5
  have HF := Lib.hid hf
  clear hf f
  go_wp2
  refine bodyPost_ret (v := .tuple #[.agg #[.int .i64 0, .bool false, .int .i64 0, .string ⟨#[]⟩, .slice none 0 0, .slice none 0 0], .int .i64 x]) (by simp [results, Tryz.results59, go_sem, *]) rfl ⟨rfl, ?_⟩
  exact Wr.toFresh (p := fun k => w.heap.size ≤ k) (((Wr.of_fresh HF0.out).fresh HF.out).set6 (.inl (Nat.le_of_eq hsz)) _ _ _ _ _ _) (fun k hk h => by omega)
theorem rscal_q_more (s : ByteArray) (deep : Int) (w : World) (h : Names s false false false false false) (hp : 0 < s.size) (h34 : s[0] = 34) (u : List UInt8 × Nat × Int) (hU : ∀ W : World, Calls Tryz.prog 61 #[.string s] W fun e w' => e = .returned (.tuple #[.string (tx u.1), .int .i64 (u.2.1 : Int), .int .i64 u.2.2]) ∧ Fresh W w') (hx : u.2.2 = 0) (hn : u.2.1 ≠ s.size) : Calls Tryz.prog 59 #[.string s, .int .i64 deep] w fun e w' => e = rval 0 false 0 ⟨#[]⟩ 6 ∧ Fresh w w' := by
  obtain ⟨e1, e2, e3, e4, e5⟩ := h
  obtain ⟨t0, n, x⟩ := u
  dsimp only at *
  have HU := Lib.hid hU
  have q2 : (0 : Int) < (s.size : Int) := by omega
  subst hx
  have gn : ((n : Int) != (s.size : Int)) = true := by simp; omega
  have HB : Hid (RBox (w.alloc (.cells zcells 36 (0, 0))) w.heap.size) := v.at_new w _
  have HF0 := Lib.hid ((Fresh.refl w).alloc (.cells zcells 36 (0, 0)))
  have HSZ : Hid (w.heap.size ≤ w.heap.size) := Nat.le_refl _
  clear hU
  go_enter Tryz.func59, Tryz.ntmps59
  go_wp2_with fail
  generalize w.alloc (.cells zcells 36 (0, 0)) = w0 at *
  generalize hsz : w.heap.size = sz at *
  refine (HU.out _).mono ?_
  rintro e w1 ⟨rfl, hf⟩
  obtain ⟨c0, c1, c2, c3, c4, c5, f, lt⟩ := (show RBox w1 sz from v.Fresh.at hf HB.out).facts
  have f0 := f 0; have f1 := f 1; have f2 := f 2; have f3 := f 3; have f4 := f 4; have f5 := f 5
  have HF := Lib.hid hf
  clear hf f
  go_wp2
  refine bodyPost_ret (v := .tuple #[.agg #[.int .i64 0, .bool false, .int .i64 0, .string ⟨#[]⟩, .slice none 0 0, .slice none 0 0], .int .i64 6]) (by simp [results, Tryz.results59, go_sem, *]) rfl ⟨rfl, ?_⟩
  exact Wr.toFresh (p := fun k => w.heap.size ≤ k) (((Wr.of_fresh HF0.out).fresh HF.out).set6 (.inl (Nat.le_of_eq hsz)) _ _ _ _ _ _) (fun k hk h => by omega)
theorem rscal_q (s : ByteArray) (deep : Int) (w : World) (h : Names s false false false false false) (hp : 0 < s.size) (h34 : s[0] = 34) (u : List UInt8 × Nat × Int) (hU : ∀ W : World, Calls Tryz.prog 61 #[.string s] W fun e w' => e = .returned (.tuple #[.string (tx u.1), .int .i64 (u.2.1 : Int), .int .i64 u.2.2]) ∧ Fresh W w') (hx : u.2.2 = 0) (hn : u.2.1 = s.size) : Calls Tryz.prog 59 #[.string s, .int .i64 deep] w fun e w' => e = rval 3 false 0 (tx u.1) 0 ∧ Fresh w w' := by
  obtain ⟨e1, e2, e3, e4, e5⟩ := h
  obtain ⟨t0, n, x⟩ := u
  dsimp only at *
  have HU := Lib.hid hU
  have q2 : (0 : Int) < (s.size : Int) := by omega
  subst hx
  have gn : ((n : Int) != (s.size : Int)) = false := by simp; omega
  have HB : Hid (RBox (w.alloc (.cells zcells 36 (0, 0))) w.heap.size) := v.at_new w _
  have HF0 := Lib.hid ((Fresh.refl w).alloc (.cells zcells 36 (0, 0)))
  have HSZ : Hid (w.heap.size ≤ w.heap.size) := Nat.le_refl _
  clear hU
  go_enter Tryz.func59, Tryz.ntmps59
  go_wp2_with fail
  generalize w.alloc (.cells zcells 36 (0, 0)) = w0 at *
  generalize hsz : w.heap.size = sz at *
  refine (HU.out _).mono ?_
  rintro e w1 ⟨rfl, hf⟩
  obtain ⟨c0, c1, c2, c3, c4, c5, f, lt⟩ := (show RBox w1 sz from v.Fresh.at hf HB.out).facts
  have f0 := f 0; have f1 := f 1; have f2 := f 2; have f3 := f 3; have f4 := f 4; have f5 := f 5
  have HF := Lib.hid hf
  clear hf f
  go_wp2
  refine bodyPost_ret (v := .tuple #[.agg #[.int .i64 3, .bool false, .int .i64 0, .string (tx t0), .slice none 0 0, .slice none 0 0], .int .i64 0]) (by simp [results, Tryz.results59, go_sem, *]) rfl ⟨rfl, ?_⟩
  exact Wr.toFresh (p := fun k => w.heap.size ≤ k) (((Wr.of_fresh HF0.out).fresh HF.out).set6 (.inl (Nat.le_of_eq hsz)) _ _ _ _ _ _) (fun k hk h => by omega)
theorem rscal_form (s : ByteArray) (deep : Int) (w : World) (h : Names s false false false false false) (hs : s.size ≤ 90000) (hp : 0 < s.size) (h34 : s[0] ≠ 34) (ho : onlyB inW s.data.toList = false) : Calls Tryz.prog 59 #[.string s, .int .i64 deep] w fun e w' => e = rval 0 false 0 ⟨#[]⟩ 6 ∧ Fresh w w' := by
  obtain ⟨e1, e2, e3, e4, e5⟩ := h
  have q1 : ((s[0].toNat : Int) == 34) = false := beq_eq_false_iff_ne.2 (fun e => h34 (UInt8.toNat_inj.1 (by simpa using (by omega : s[0].toNat = 34))))
  have q2 : (0 : Int) < (s.size : Int) := by omega
  have HM : Hid (∀ W : World, Calls Tryz.prog 34 #[.string s, .string ⟨#[46, 95, 47, 58, 64, 43, 45]⟩] W fun e w' => e = .returned (.bool (onlyB inW s.data.toList)) ∧ Fresh W w') := fun W => by
    have k := made_any s (tx inW) W (by omega) (by decide)
    rw [decide_eq_true hp, Bool.and_true, tx_toList] at k
    exact k
  rw [ho] at HM
  have HB : Hid (RBox (w.alloc (.cells zcells 36 (0, 0))) w.heap.size) := v.at_new w _
  have HF0 := Lib.hid ((Fresh.refl w).alloc (.cells zcells 36 (0, 0)))
  have HSZ : Hid (w.heap.size ≤ w.heap.size) := Nat.le_refl _
  clear h34
  go_enter Tryz.func59, Tryz.ntmps59
  go_wp2_with fail
  generalize w.alloc (.cells zcells 36 (0, 0)) = w0 at *
  generalize hsz : w.heap.size = sz at *
  refine (HM.out _).mono ?_
  rintro e w1 ⟨rfl, hf⟩
  obtain ⟨c0, c1, c2, c3, c4, c5, f, lt⟩ := (show RBox w1 sz from v.Fresh.at hf HB.out).facts
  have f0 := f 0; have f1 := f 1; have f2 := f 2; have f3 := f 3; have f4 := f 4; have f5 := f 5
  have HF := Lib.hid hf
  clear hf f
  go_wp2
  refine bodyPost_ret (v := .tuple #[.agg #[.int .i64 0, .bool false, .int .i64 0, .string ⟨#[]⟩, .slice none 0 0, .slice none 0 0], .int .i64 6]) (by simp [results, Tryz.results59, go_sem, *]) rfl ⟨rfl, ?_⟩
  exact Wr.toFresh (p := fun k => w.heap.size ≤ k) (((Wr.of_fresh HF0.out).fresh HF.out).set6 (.inl (Nat.le_of_eq hsz)) _ _ _ _ _ _) (fun k hk h => by omega)
theorem rscal_num_bad_minus (s : ByteArray) (deep : Int) (w : World) (h : Names s false false false false false) (hs : s.size ≤ 90000) (hp : 0 < s.size) (h34 : s[0] ≠ 34) (ho : onlyB inW s.data.toList = true) (c45 : s[0].toNat = 45) (hx : wholeE s.data.toList ≠ 0) : Calls Tryz.prog 59 #[.string s, .int .i64 deep] w fun e w' => e = rval 0 false 0 ⟨#[]⟩ (wholeE s.data.toList) ∧ Fresh w w' := by
  obtain ⟨e1, e2, e3, e4, e5⟩ := h
  have q1 : ((s[0].toNat : Int) == 34) = false := beq_eq_false_iff_ne.2 (fun e => h34 (UInt8.toNat_inj.1 (by simpa using (by omega : s[0].toNat = 34))))
  have q2 : (0 : Int) < (s.size : Int) := by omega
  have HM : Hid (∀ W : World, Calls Tryz.prog 34 #[.string s, .string ⟨#[46, 95, 47, 58, 64, 43, 45]⟩] W fun e w' => e = .returned (.bool (onlyB inW s.data.toList)) ∧ Fresh W w') := fun W => by
    have k := made_any s (tx inW) W (by omega) (by decide)
    rw [decide_eq_true hp, Bool.and_true, tx_toList] at k
    exact k
  rw [ho] at HM
  have g45 : ((s[0].toNat : Int) == 45) = true := by simp; omega
  have HWH : Hid (∀ W : World, Calls Tryz.prog 88 #[.string s] W fun e w' => e = .returned (.tuple #[.int .i64 (wholeV s.data.toList), .int .i64 (wholeE s.data.toList)]) ∧ W = w') := fun W => rwhole_any s W (by omega)
  generalize wholeE s.data.toList = x at *
  generalize wholeV s.data.toList = n at *
  have gx : (x != 0) = true := by simpa using hx
  have HB : Hid (RBox (w.alloc (.cells zcells 36 (0, 0))) w.heap.size) := v.at_new w _
  have HF0 := Lib.hid ((Fresh.refl w).alloc (.cells zcells 36 (0, 0)))
  have HSZ : Hid (w.heap.size ≤ w.heap.size) := Nat.le_refl _
  clear h34
  go_enter Tryz.func59, Tryz.ntmps59
  go_wp2_with fail
  generalize w.alloc (.cells zcells 36 (0, 0)) = w0 at *
  generalize hsz : w.heap.size = sz at *
  refine (HM.out _).mono ?_
  rintro e w1 ⟨rfl, hf⟩
  obtain ⟨c0, c1, c2, c3, c4, c5, f, lt⟩ := (show RBox w1 sz from v.Fresh.at hf HB.out).facts
  have f0 := f 0; have f1 := f 1; have f2 := f 2; have f3 := f 3; have f4 := f 4; have f5 := f 5
  have HF := Lib.hid hf
  clear hf f
  go_wp2_with (go_at_call 88; refine (HWH.out _).mono ?_; rintro e w2 ⟨rfl, rfl⟩)
  refine bodyPost_ret (v := .tuple #[.agg #[.int .i64 0, .bool false, .int .i64 0, .string ⟨#[]⟩, .slice none 0 0, .slice none 0 0], .int .i64 x]) (by simp [results, Tryz.results59, go_sem, *]) rfl ⟨rfl, ?_⟩
  exact Wr.toFresh (p := fun k => w.heap.size ≤ k) (((Wr.of_fresh HF0.out).fresh HF.out).set6 (.inl (Nat.le_of_eq hsz)) _ _ _ _ _ _) (fun k hk h => by omega)
theorem rscal_num_minus (s : ByteArray) (deep : Int) (w : World) (h : Names s false false false false false) (hs : s.size ≤ 90000) (hp : 0 < s.size) (h34 : s[0] ≠ 34) (ho : onlyB inW s.data.toList = true) (c45 : s[0].toNat = 45) (hx : wholeE s.data.toList = 0) : Calls Tryz.prog 59 #[.string s, .int .i64 deep] w fun e w' => e = rval 2 false (wholeV s.data.toList) ⟨#[]⟩ 0 ∧ Fresh w w' := by
  obtain ⟨e1, e2, e3, e4, e5⟩ := h
  have q1 : ((s[0].toNat : Int) == 34) = false := beq_eq_false_iff_ne.2 (fun e => h34 (UInt8.toNat_inj.1 (by simpa using (by omega : s[0].toNat = 34))))
  have q2 : (0 : Int) < (s.size : Int) := by omega
  have HM : Hid (∀ W : World, Calls Tryz.prog 34 #[.string s, .string ⟨#[46, 95, 47, 58, 64, 43, 45]⟩] W fun e w' => e = .returned (.bool (onlyB inW s.data.toList)) ∧ Fresh W w') := fun W => by
    have k := made_any s (tx inW) W (by omega) (by decide)
    rw [decide_eq_true hp, Bool.and_true, tx_toList] at k
    exact k
  rw [ho] at HM
  have g45 : ((s[0].toNat : Int) == 45) = true := by simp; omega
  have HWH : Hid (∀ W : World, Calls Tryz.prog 88 #[.string s] W fun e w' => e = .returned (.tuple #[.int .i64 (wholeV s.data.toList), .int .i64 (wholeE s.data.toList)]) ∧ W = w') := fun W => rwhole_any s W (by omega)
  rw [hx] at HWH
  generalize wholeV s.data.toList = n at *
  have HB : Hid (RBox (w.alloc (.cells zcells 36 (0, 0))) w.heap.size) := v.at_new w _
  have HF0 := Lib.hid ((Fresh.refl w).alloc (.cells zcells 36 (0, 0)))
  have HSZ : Hid (w.heap.size ≤ w.heap.size) := Nat.le_refl _
  clear h34
  go_enter Tryz.func59, Tryz.ntmps59
  go_wp2_with fail
  generalize w.alloc (.cells zcells 36 (0, 0)) = w0 at *
  generalize hsz : w.heap.size = sz at *
  refine (HM.out _).mono ?_
  rintro e w1 ⟨rfl, hf⟩
  obtain ⟨c0, c1, c2, c3, c4, c5, f, lt⟩ := (show RBox w1 sz from v.Fresh.at hf HB.out).facts
  have f0 := f 0; have f1 := f 1; have f2 := f 2; have f3 := f 3; have f4 := f 4; have f5 := f 5
  have HF := Lib.hid hf
  clear hf f
  go_wp2_with (go_at_call 88; refine (HWH.out _).mono ?_; rintro e w2 ⟨rfl, rfl⟩)
  refine bodyPost_ret (v := .tuple #[.agg #[.int .i64 2, .bool false, .int .i64 n, .string ⟨#[]⟩, .slice none 0 0, .slice none 0 0], .int .i64 0]) (by simp [results, Tryz.results59, go_sem, *]) rfl ⟨rfl, ?_⟩
  exact Wr.toFresh (p := fun k => w.heap.size ≤ k) (((Wr.of_fresh HF0.out).fresh HF.out).set6 (.inl (Nat.le_of_eq hsz)) _ _ _ _ _ _) (fun k hk h => by omega)
theorem rscal_num_bad_dig (s : ByteArray) (deep : Int) (w : World) (h : Names s false false false false false) (hs : s.size ≤ 90000) (hp : 0 < s.size) (h34 : s[0] ≠ 34) (ho : onlyB inW s.data.toList = true) (c45 : 48 ≤ s[0].toNat ∧ s[0].toNat ≤ 57) (hx : wholeE s.data.toList ≠ 0) : Calls Tryz.prog 59 #[.string s, .int .i64 deep] w fun e w' => e = rval 0 false 0 ⟨#[]⟩ (wholeE s.data.toList) ∧ Fresh w w' := by
  obtain ⟨e1, e2, e3, e4, e5⟩ := h
  have q1 : ((s[0].toNat : Int) == 34) = false := beq_eq_false_iff_ne.2 (fun e => h34 (UInt8.toNat_inj.1 (by simpa using (by omega : s[0].toNat = 34))))
  have q2 : (0 : Int) < (s.size : Int) := by omega
  have HM : Hid (∀ W : World, Calls Tryz.prog 34 #[.string s, .string ⟨#[46, 95, 47, 58, 64, 43, 45]⟩] W fun e w' => e = .returned (.bool (onlyB inW s.data.toList)) ∧ Fresh W w') := fun W => by
    have k := made_any s (tx inW) W (by omega) (by decide)
    rw [decide_eq_true hp, Bool.and_true, tx_toList] at k
    exact k
  rw [ho] at HM
  have g45 : ((s[0].toNat : Int) == 45) = false := by simp; omega
  have g48 : (48 : Int) ≤ (s[0].toNat : Int) := by omega
  have g57 : (s[0].toNat : Int) ≤ 57 := by omega
  have HWH : Hid (∀ W : World, Calls Tryz.prog 88 #[.string s] W fun e w' => e = .returned (.tuple #[.int .i64 (wholeV s.data.toList), .int .i64 (wholeE s.data.toList)]) ∧ W = w') := fun W => rwhole_any s W (by omega)
  generalize wholeE s.data.toList = x at *
  generalize wholeV s.data.toList = n at *
  have gx : (x != 0) = true := by simpa using hx
  have HB : Hid (RBox (w.alloc (.cells zcells 36 (0, 0))) w.heap.size) := v.at_new w _
  have HF0 := Lib.hid ((Fresh.refl w).alloc (.cells zcells 36 (0, 0)))
  have HSZ : Hid (w.heap.size ≤ w.heap.size) := Nat.le_refl _
  clear h34
  go_enter Tryz.func59, Tryz.ntmps59
  go_wp2_with fail
  generalize w.alloc (.cells zcells 36 (0, 0)) = w0 at *
  generalize hsz : w.heap.size = sz at *
  refine (HM.out _).mono ?_
  rintro e w1 ⟨rfl, hf⟩
  obtain ⟨c0, c1, c2, c3, c4, c5, f, lt⟩ := (show RBox w1 sz from v.Fresh.at hf HB.out).facts
  have f0 := f 0; have f1 := f 1; have f2 := f 2; have f3 := f 3; have f4 := f 4; have f5 := f 5
  have HF := Lib.hid hf
  clear hf f
  go_wp2_with (go_at_call 88; refine (HWH.out _).mono ?_; rintro e w2 ⟨rfl, rfl⟩)
  refine bodyPost_ret (v := .tuple #[.agg #[.int .i64 0, .bool false, .int .i64 0, .string ⟨#[]⟩, .slice none 0 0, .slice none 0 0], .int .i64 x]) (by simp [results, Tryz.results59, go_sem, *]) rfl ⟨rfl, ?_⟩
  exact Wr.toFresh (p := fun k => w.heap.size ≤ k) (((Wr.of_fresh HF0.out).fresh HF.out).set6 (.inl (Nat.le_of_eq hsz)) _ _ _ _ _ _) (fun k hk h => by omega)
theorem rscal_num_dig (s : ByteArray) (deep : Int) (w : World) (h : Names s false false false false false) (hs : s.size ≤ 90000) (hp : 0 < s.size) (h34 : s[0] ≠ 34) (ho : onlyB inW s.data.toList = true) (c45 : 48 ≤ s[0].toNat ∧ s[0].toNat ≤ 57) (hx : wholeE s.data.toList = 0) : Calls Tryz.prog 59 #[.string s, .int .i64 deep] w fun e w' => e = rval 2 false (wholeV s.data.toList) ⟨#[]⟩ 0 ∧ Fresh w w' := by
  obtain ⟨e1, e2, e3, e4, e5⟩ := h
  have q1 : ((s[0].toNat : Int) == 34) = false := beq_eq_false_iff_ne.2 (fun e => h34 (UInt8.toNat_inj.1 (by simpa using (by omega : s[0].toNat = 34))))
  have q2 : (0 : Int) < (s.size : Int) := by omega
  have HM : Hid (∀ W : World, Calls Tryz.prog 34 #[.string s, .string ⟨#[46, 95, 47, 58, 64, 43, 45]⟩] W fun e w' => e = .returned (.bool (onlyB inW s.data.toList)) ∧ Fresh W w') := fun W => by
    have k := made_any s (tx inW) W (by omega) (by decide)
    rw [decide_eq_true hp, Bool.and_true, tx_toList] at k
    exact k
  rw [ho] at HM
  have g45 : ((s[0].toNat : Int) == 45) = false := by simp; omega
  have g48 : (48 : Int) ≤ (s[0].toNat : Int) := by omega
  have g57 : (s[0].toNat : Int) ≤ 57 := by omega
  have HWH : Hid (∀ W : World, Calls Tryz.prog 88 #[.string s] W fun e w' => e = .returned (.tuple #[.int .i64 (wholeV s.data.toList), .int .i64 (wholeE s.data.toList)]) ∧ W = w') := fun W => rwhole_any s W (by omega)
  rw [hx] at HWH
  generalize wholeV s.data.toList = n at *
  have HB : Hid (RBox (w.alloc (.cells zcells 36 (0, 0))) w.heap.size) := v.at_new w _
  have HF0 := Lib.hid ((Fresh.refl w).alloc (.cells zcells 36 (0, 0)))
  have HSZ : Hid (w.heap.size ≤ w.heap.size) := Nat.le_refl _
  clear h34
  go_enter Tryz.func59, Tryz.ntmps59
  go_wp2_with fail
  generalize w.alloc (.cells zcells 36 (0, 0)) = w0 at *
  generalize hsz : w.heap.size = sz at *
  refine (HM.out _).mono ?_
  rintro e w1 ⟨rfl, hf⟩
  obtain ⟨c0, c1, c2, c3, c4, c5, f, lt⟩ := (show RBox w1 sz from v.Fresh.at hf HB.out).facts
  have f0 := f 0; have f1 := f 1; have f2 := f 2; have f3 := f 3; have f4 := f 4; have f5 := f 5
  have HF := Lib.hid hf
  clear hf f
  go_wp2_with (go_at_call 88; refine (HWH.out _).mono ?_; rintro e w2 ⟨rfl, rfl⟩)
  refine bodyPost_ret (v := .tuple #[.agg #[.int .i64 2, .bool false, .int .i64 n, .string ⟨#[]⟩, .slice none 0 0, .slice none 0 0], .int .i64 0]) (by simp [results, Tryz.results59, go_sem, *]) rfl ⟨rfl, ?_⟩
  exact Wr.toFresh (p := fun k => w.heap.size ≤ k) (((Wr.of_fresh HF0.out).fresh HF.out).set6 (.inl (Nat.le_of_eq hsz)) _ _ _ _ _ _) (fun k hk h => by omega)
theorem rscal_long_lo (s : ByteArray) (deep : Int) (w : World) (h : Names s false false false false false) (hs : s.size ≤ 90000) (hp : 0 < s.size) (h34 : s[0] ≠ 34) (ho : onlyB inW s.data.toList = true) (c45 : s[0].toNat ≠ 45 ∧ s[0].toNat < 48) (hl : 4096 < s.size) : Calls Tryz.prog 59 #[.string s, .int .i64 deep] w fun e w' => e = rval 0 false 0 ⟨#[]⟩ 2 ∧ Fresh w w' := by
  obtain ⟨e1, e2, e3, e4, e5⟩ := h
  have q1 : ((s[0].toNat : Int) == 34) = false := beq_eq_false_iff_ne.2 (fun e => h34 (UInt8.toNat_inj.1 (by simpa using (by omega : s[0].toNat = 34))))
  have q2 : (0 : Int) < (s.size : Int) := by omega
  have HM : Hid (∀ W : World, Calls Tryz.prog 34 #[.string s, .string ⟨#[46, 95, 47, 58, 64, 43, 45]⟩] W fun e w' => e = .returned (.bool (onlyB inW s.data.toList)) ∧ Fresh W w') := fun W => by
    have k := made_any s (tx inW) W (by omega) (by decide)
    rw [decide_eq_true hp, Bool.and_true, tx_toList] at k
    exact k
  rw [ho] at HM
  have g45 : ((s[0].toNat : Int) == 45) = false := by simp; omega
  have g48 : decide ((48 : Int) ≤ (s[0].toNat : Int)) = false := decide_eq_false (by omega)
  have gl : (4096 : Int) < (s.size : Int) := by omega
  have HB : Hid (RBox (w.alloc (.cells zcells 36 (0, 0))) w.heap.size) := v.at_new w _
  have HF0 := Lib.hid ((Fresh.refl w).alloc (.cells zcells 36 (0, 0)))
  have HSZ : Hid (w.heap.size ≤ w.heap.size) := Nat.le_refl _
  clear h34
  go_enter Tryz.func59, Tryz.ntmps59
  go_wp2_with fail
  generalize w.alloc (.cells zcells 36 (0, 0)) = w0 at *
  generalize hsz : w.heap.size = sz at *
  refine (HM.out _).mono ?_
  rintro e w1 ⟨rfl, hf⟩
  obtain ⟨c0, c1, c2, c3, c4, c5, f, lt⟩ := (show RBox w1 sz from v.Fresh.at hf HB.out).facts
  have f0 := f 0; have f1 := f 1; have f2 := f 2; have f3 := f 3; have f4 := f 4; have f5 := f 5
  have HF := Lib.hid hf
  clear hf f
  go_wp2
  refine bodyPost_ret (v := .tuple #[.agg #[.int .i64 0, .bool false, .int .i64 0, .string ⟨#[]⟩, .slice none 0 0, .slice none 0 0], .int .i64 2]) (by simp [results, Tryz.results59, go_sem, *]) rfl ⟨rfl, ?_⟩
  exact Wr.toFresh (p := fun k => w.heap.size ≤ k) (((Wr.of_fresh HF0.out).fresh HF.out).set6 (.inl (Nat.le_of_eq hsz)) _ _ _ _ _ _) (fun k hk h => by omega)
theorem rscal_word_lo (s : ByteArray) (deep : Int) (w : World) (h : Names s false false false false false) (hs : s.size ≤ 90000) (hp : 0 < s.size) (h34 : s[0] ≠ 34) (ho : onlyB inW s.data.toList = true) (c45 : s[0].toNat ≠ 45 ∧ s[0].toNat < 48) (hl : ¬ 4096 < s.size) : Calls Tryz.prog 59 #[.string s, .int .i64 deep] w fun e w' => e = rval 3 false 0 s 0 ∧ Fresh w w' := by
  obtain ⟨e1, e2, e3, e4, e5⟩ := h
  have q1 : ((s[0].toNat : Int) == 34) = false := beq_eq_false_iff_ne.2 (fun e => h34 (UInt8.toNat_inj.1 (by simpa using (by omega : s[0].toNat = 34))))
  have q2 : (0 : Int) < (s.size : Int) := by omega
  have HM : Hid (∀ W : World, Calls Tryz.prog 34 #[.string s, .string ⟨#[46, 95, 47, 58, 64, 43, 45]⟩] W fun e w' => e = .returned (.bool (onlyB inW s.data.toList)) ∧ Fresh W w') := fun W => by
    have k := made_any s (tx inW) W (by omega) (by decide)
    rw [decide_eq_true hp, Bool.and_true, tx_toList] at k
    exact k
  rw [ho] at HM
  have g45 : ((s[0].toNat : Int) == 45) = false := by simp; omega
  have g48 : decide ((48 : Int) ≤ (s[0].toNat : Int)) = false := decide_eq_false (by omega)
  have gl : ¬ (4096 : Int) < (s.size : Int) := by omega
  have HB : Hid (RBox (w.alloc (.cells zcells 36 (0, 0))) w.heap.size) := v.at_new w _
  have HF0 := Lib.hid ((Fresh.refl w).alloc (.cells zcells 36 (0, 0)))
  have HSZ : Hid (w.heap.size ≤ w.heap.size) := Nat.le_refl _
  clear h34
  go_enter Tryz.func59, Tryz.ntmps59
  go_wp2_with fail
  generalize w.alloc (.cells zcells 36 (0, 0)) = w0 at *
  generalize hsz : w.heap.size = sz at *
  refine (HM.out _).mono ?_
  rintro e w1 ⟨rfl, hf⟩
  obtain ⟨c0, c1, c2, c3, c4, c5, f, lt⟩ := (show RBox w1 sz from v.Fresh.at hf HB.out).facts
  have f0 := f 0; have f1 := f 1; have f2 := f 2; have f3 := f 3; have f4 := f 4; have f5 := f 5
  have HF := Lib.hid hf
  clear hf f
  go_wp2
  refine bodyPost_ret (v := .tuple #[.agg #[.int .i64 3, .bool false, .int .i64 0, .string s, .slice none 0 0, .slice none 0 0], .int .i64 0]) (by simp [results, Tryz.results59, go_sem, *]) rfl ⟨rfl, ?_⟩
  exact Wr.toFresh (p := fun k => w.heap.size ≤ k) (((Wr.of_fresh HF0.out).fresh HF.out).set6 (.inl (Nat.le_of_eq hsz)) _ _ _ _ _ _) (fun k hk h => by omega)
theorem rscal_long_hi (s : ByteArray) (deep : Int) (w : World) (h : Names s false false false false false) (hs : s.size ≤ 90000) (hp : 0 < s.size) (h34 : s[0] ≠ 34) (ho : onlyB inW s.data.toList = true) (c45 : 57 < s[0].toNat) (hl : 4096 < s.size) : Calls Tryz.prog 59 #[.string s, .int .i64 deep] w fun e w' => e = rval 0 false 0 ⟨#[]⟩ 2 ∧ Fresh w w' := by
  obtain ⟨e1, e2, e3, e4, e5⟩ := h
  have q1 : ((s[0].toNat : Int) == 34) = false := beq_eq_false_iff_ne.2 (fun e => h34 (UInt8.toNat_inj.1 (by simpa using (by omega : s[0].toNat = 34))))
  have q2 : (0 : Int) < (s.size : Int) := by omega
  have HM : Hid (∀ W : World, Calls Tryz.prog 34 #[.string s, .string ⟨#[46, 95, 47, 58, 64, 43, 45]⟩] W fun e w' => e = .returned (.bool (onlyB inW s.data.toList)) ∧ Fresh W w') := fun W => by
    have k := made_any s (tx inW) W (by omega) (by decide)
    rw [decide_eq_true hp, Bool.and_true, tx_toList] at k
    exact k
  rw [ho] at HM
  have g45 : ((s[0].toNat : Int) == 45) = false := by simp; omega
  have g48 : (48 : Int) ≤ (s[0].toNat : Int) := by omega
  have g57 : decide ((s[0].toNat : Int) ≤ 57) = false := decide_eq_false (by omega)
  have gl : (4096 : Int) < (s.size : Int) := by omega
  have HB : Hid (RBox (w.alloc (.cells zcells 36 (0, 0))) w.heap.size) := v.at_new w _
  have HF0 := Lib.hid ((Fresh.refl w).alloc (.cells zcells 36 (0, 0)))
  have HSZ : Hid (w.heap.size ≤ w.heap.size) := Nat.le_refl _
  clear h34
  go_enter Tryz.func59, Tryz.ntmps59
  go_wp2_with fail
  generalize w.alloc (.cells zcells 36 (0, 0)) = w0 at *
  generalize hsz : w.heap.size = sz at *
  refine (HM.out _).mono ?_
  rintro e w1 ⟨rfl, hf⟩
  obtain ⟨c0, c1, c2, c3, c4, c5, f, lt⟩ := (show RBox w1 sz from v.Fresh.at hf HB.out).facts
  have f0 := f 0; have f1 := f 1; have f2 := f 2; have f3 := f 3; have f4 := f 4; have f5 := f 5
  have HF := Lib.hid hf
  clear hf f
  go_wp2
  refine bodyPost_ret (v := .tuple #[.agg #[.int .i64 0, .bool false, .int .i64 0, .string ⟨#[]⟩, .slice none 0 0, .slice none 0 0], .int .i64 2]) (by simp [results, Tryz.results59, go_sem, *]) rfl ⟨rfl, ?_⟩
  exact Wr.toFresh (p := fun k => w.heap.size ≤ k) (((Wr.of_fresh HF0.out).fresh HF.out).set6 (.inl (Nat.le_of_eq hsz)) _ _ _ _ _ _) (fun k hk h => by omega)
theorem rscal_word_hi (s : ByteArray) (deep : Int) (w : World) (h : Names s false false false false false) (hs : s.size ≤ 90000) (hp : 0 < s.size) (h34 : s[0] ≠ 34) (ho : onlyB inW s.data.toList = true) (c45 : 57 < s[0].toNat) (hl : ¬ 4096 < s.size) : Calls Tryz.prog 59 #[.string s, .int .i64 deep] w fun e w' => e = rval 3 false 0 s 0 ∧ Fresh w w' := by
  obtain ⟨e1, e2, e3, e4, e5⟩ := h
  have q1 : ((s[0].toNat : Int) == 34) = false := beq_eq_false_iff_ne.2 (fun e => h34 (UInt8.toNat_inj.1 (by simpa using (by omega : s[0].toNat = 34))))
  have q2 : (0 : Int) < (s.size : Int) := by omega
  have HM : Hid (∀ W : World, Calls Tryz.prog 34 #[.string s, .string ⟨#[46, 95, 47, 58, 64, 43, 45]⟩] W fun e w' => e = .returned (.bool (onlyB inW s.data.toList)) ∧ Fresh W w') := fun W => by
    have k := made_any s (tx inW) W (by omega) (by decide)
    rw [decide_eq_true hp, Bool.and_true, tx_toList] at k
    exact k
  rw [ho] at HM
  have g45 : ((s[0].toNat : Int) == 45) = false := by simp; omega
  have g48 : (48 : Int) ≤ (s[0].toNat : Int) := by omega
  have g57 : decide ((s[0].toNat : Int) ≤ 57) = false := decide_eq_false (by omega)
  have gl : ¬ (4096 : Int) < (s.size : Int) := by omega
  have HB : Hid (RBox (w.alloc (.cells zcells 36 (0, 0))) w.heap.size) := v.at_new w _
  have HF0 := Lib.hid ((Fresh.refl w).alloc (.cells zcells 36 (0, 0)))
  have HSZ : Hid (w.heap.size ≤ w.heap.size) := Nat.le_refl _
  clear h34
  go_enter Tryz.func59, Tryz.ntmps59
  go_wp2_with fail
  generalize w.alloc (.cells zcells 36 (0, 0)) = w0 at *
  generalize hsz : w.heap.size = sz at *
  refine (HM.out _).mono ?_
  rintro e w1 ⟨rfl, hf⟩
  obtain ⟨c0, c1, c2, c3, c4, c5, f, lt⟩ := (show RBox w1 sz from v.Fresh.at hf HB.out).facts
  have f0 := f 0; have f1 := f 1; have f2 := f 2; have f3 := f 3; have f4 := f 4; have f5 := f 5
  have HF := Lib.hid hf
  clear hf f
  go_wp2
  refine bodyPost_ret (v := .tuple #[.agg #[.int .i64 3, .bool false, .int .i64 0, .string s, .slice none 0 0, .slice none 0 0], .int .i64 0]) (by simp [results, Tryz.results59, go_sem, *]) rfl ⟨rfl, ?_⟩
  exact Wr.toFresh (p := fun k => w.heap.size ≤ k) (((Wr.of_fresh HF0.out).fresh HF.out).set6 (.inl (Nat.le_of_eq hsz)) _ _ _ _ _ _) (fun k hk h => by omega)
end y
end Go.Proofs.YtcljplkkgpjhlaaGreatDoorR
