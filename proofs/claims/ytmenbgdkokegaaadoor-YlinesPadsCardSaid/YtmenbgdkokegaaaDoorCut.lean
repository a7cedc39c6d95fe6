/-
  Package ylines: a text's rows.
-/
import Derived.Test.YtmenbgdkokegaaaDoorIter
import Derived.Test.YtmenbgdkokegaaaDoorAdd
import Derived.Test.YtmenbgdkokegaaaDoorMay
import Derived.Test.YtmenbgdkokegaaaDoorContent
import Derived.RangeFuncWrites
namespace Go.Proofs.YtmenbgdkokegaaaDoor
open Go.ChangeShapes Go.WideShapes Go.ChangeAt Go.RowKit Go.Shelf
attribute [local go_sem] Oper.semAt_some
variable {w : World}

/-! ### a text, line by line -/
abbrev V : List UInt8 → Bool := Lib.validD
def codeX (x : Nat × List UInt8) : Nat := if badL V (clip x.2) = true then 10 else match rem (clip x.2) with
  | none => 11
  | some _ => 0
def rowsX (x : Nat × List UInt8) : List Rw := match rem (clip x.2) with
  | none => []
  | some k => rowsS x.1 0 (Lib.trimRightB ((clip x.2).take k) 32)
def accX (l : List (Nat × List UInt8)) : List Rw := l.flatMap rowsX
theorem accX_snoc (l : List (Nat × List UInt8)) (x : Nat × List UInt8) : accX (l ++ [x]) = accX l ++ rowsX x := by simp [accX]
theorem trimR_len (l : List UInt8) : (Lib.trimRightB l 32).length ≤ l.length := by
  unfold Lib.trimRightB
  rw [List.length_reverse]
  have := (List.dropWhile_suffix (l := l.reverse) (fun x => x == (32 : UInt8))).length_le
  simpa using this
theorem rowsX_len (x : Nat × List UInt8) : (rowsX x).length ≤ 1000000 := by
  unfold rowsX
  split
  · simp
  · rename_i k _
    have h1 := rowsS_len x.1 (Lib.trimRightB ((clip x.2).take k) 32) 0
    have h2 := trimR_len ((clip x.2).take k)
    have h3 := clip_len x.2
    have h4 : ((clip x.2).take k).length ≤ (clip x.2).length := by simp; omega
    omega
theorem accX_len (l : List (Nat × List UInt8)) : (accX l).length ≤ l.length * 1000000 := by
  induction l with
  | nil => simp [accX]
  | cons x l ih =>
    have e : accX (x :: l) = rowsX x ++ accX l := by simp [accX]
    have := rowsX_len x
    rw [e, List.length_append, List.length_cons]
    omega
theorem lnsA_mem : ∀ (l c x : List UInt8), x ∈ lnsA c l → x.length ≤ c.length + l.length
  | [], c, x, h => by
    simp [lnsA] at h
    simp [h]
  | b :: r, c, x, h => by
    rw [lnsA] at h
    split at h
    · rcases List.mem_cons.1 h with rfl | h
      · omega
      · have := lnsA_mem r [] x h
        simp at this ⊢; omega
    · have := lnsA_mem r _ x h
      simp at this ⊢; omega
theorem cut_full : ∀ (ls : List (List UInt8)) (n : Nat) (acc : List Rw), (∀ l ∈ ls, l.length ≤ 1000000) → (∀ x ∈ nums n ls, codeX x = 0) → cutA V n ls acc = (acc ++ accX (nums n ls), 0, 0)
  | [], n, acc, _, _ => by simp [cutA, nums, accX]
  | l :: ls, n, acc, hl, h => by
    have h0 := h (n, l) (by simp [nums])
    have hc : clip l = l := clip_self (hl l (by simp))
    unfold codeX at h0
    dsimp only at h0
    rw [hc] at h0
    by_cases hb : badL V l = true
    · rw [if_pos hb] at h0; cases h0
    · rw [if_neg hb] at h0
      cases hr : rem l with
      | none => rw [hr] at h0; cases h0
      | some k =>
        have e : rowsX (n, l) = rowsS n 0 (Lib.trimRightB (l.take k) 32) := by
          unfold rowsX
          dsimp only
          rw [hc, hr]
        rw [cutA_step V (by simpa using hb) hr, cut_full ls (n + 1) _ (fun x hx => hl x (by simp [hx])) (fun x hx => h x (by simp [nums, hx]))]
        simp [nums, accX, e]
theorem cut_stop : ∀ (ls : List (List UInt8)) (n : Nat) (acc : List Rw) (pre : List (Nat × List UInt8)) (x : Nat × List UInt8), (∀ l ∈ ls, l.length ≤ 1000000) → pre ++ [x] <+: nums n ls → (∀ y ∈ pre, codeX y = 0) → codeX x ≠ 0 →
    cutA V n ls acc = ([], x.1, (codeX x : Int))
  | [], n, acc, pre, x, _, h, _, _ => by simp [nums] at h
  | l :: ls, n, acc, pre, x, hl, h, hg, hx => by
    have hc : clip l = l := clip_self (hl l (by simp))
    rw [nums] at h
    rcases pre with _ | ⟨y, pre⟩
    · simp at h
      subst h
      unfold codeX at hx ⊢
      dsimp only at hx ⊢
      rw [hc] at hx ⊢
      by_cases hb : badL V l = true
      · rw [if_pos hb] at hx ⊢
        exact cutA_bad V hb
      · rw [if_neg hb] at hx ⊢
        cases hr : rem l with
        | none => exact cutA_end V (by simpa using hb) hr
        | some k => rw [hr] at hx; exact absurd rfl hx
    · simp only [List.cons_append, List.cons_prefix_cons] at h
      obtain ⟨rfl, h⟩ := h
      have h0 := hg (n, l) (by simp)
      unfold codeX at h0
      dsimp only at h0
      rw [hc] at h0
      by_cases hb : badL V l = true
      · rw [if_pos hb] at h0; cases h0
      · rw [if_neg hb] at h0
        cases hr : rem l with
        | none => rw [hr] at h0; cases h0
        | some k =>
          rw [cutA_step V (by simpa using hb) hr]
          exact cut_stop ls (n + 1) _ pre x (fun x hx => hl x (by simp [hx])) h (fun y hy => hg y (by simp [hy])) hx
theorem row_shape {ty : Nat} {w : World} {B : Nat} {v : Value} {l : List Rw} (h : RBuf ty w B v l) : ∃ o c, v = .slice o l.length c := by
  rcases h.2 with ⟨h1, h2⟩ | ⟨g, cap, c2, h1, _⟩
  · exact ⟨none, 0, by rw [h1, h2]⟩
  · exact ⟨_, _, h1⟩
theorem box_own {A A' : World} {B0 : Nat} {row : Option Nat} {b t : Nat} {v : Value} (h : Boxed A b t v) (hg : A.grownBy A' row) (hr : ∀ r, row = some r → B0 ≤ r ∧ ∃ o : Obj, A.heap[r]? = some o ∧ o.isCells = false) : Boxed A' b t v :=
  h.kept hg (fun e => by
    obtain ⟨_, o, ho, hc⟩ := hr b e.symm
    rw [show A.heap[b]? = _ from h] at ho; cases ho; cases hc)
theorem rbuf_own {A A' : World} {B0 : Nat} {row : Option Nat} {ty B : Nat} {v : Value} {l : List Rw} (h : RBuf ty A B v l) (hg : A.grownBy A' row) (hr : ∀ r, row = some r → B0 ≤ r ∧ ∃ o : Obj, A.heap[r]? = some o ∧ o.isCells = false) : RBuf ty A' B v l := by
  refine World.ownsRow.kept h hg ?_
  rcases h.2 with ⟨rfl, _⟩ | ⟨g, cap, cur, rfl, _, hgb, _⟩
  · exact .inl rfl
  · refine .inr fun e' => ?_
    obtain ⟨_, o, ho, hc⟩ := hr g (by simpa [Value.ownBlock] using e'.symm)
    rw [hgb] at ho; cases ho; cases hc
theorem fresh_own {w A A' : World} {B0 : Nat} {row : Option Nat} (h : Fresh w A) (hB : w.heap.size ≤ B0) (hg : A.grownBy A' row) (hr : ∀ r, row = some r → B0 ≤ r ∧ ∃ o : Obj, A.heap[r]? = some o ∧ o.isCells = false) : Fresh w A' :=
  h.grown hg (fun g e => by have := (hr g e).1; omega)
theorem box_other {W : World} {b b' t : Nat} {v u : Value} (h : Boxed W b t v) (hne : b ≠ b') : Boxed (W.setCell ⟨b', 0, none⟩ u) b t v := h.kept (grownBy_setCell' W b' u) (by simpa using hne)
theorem box3 {W : World} {b0 b1 b2 t0 t1 t2 : Nat} {v0 v1 v2 : Value} (h0 : Boxed W b0 t0 v0) (h1 : Boxed W b1 t1 v1) (h2 : Boxed W b2 t2 v2) (n01 : b0 ≠ b1) (n02 : b0 ≠ b2) (n12 : b1 ≠ b2) (u0 u1 u2 : Value) :
    Boxed (((W.setCell ⟨b0, 0, none⟩ u0).setCell ⟨b1, 0, none⟩ u1).setCell ⟨b2, 0, none⟩ u2) b0 t0 u0 ∧ Boxed (((W.setCell ⟨b0, 0, none⟩ u0).setCell ⟨b1, 0, none⟩ u1).setCell ⟨b2, 0, none⟩ u2) b1 t1 u1 ∧
    Boxed (((W.setCell ⟨b0, 0, none⟩ u0).setCell ⟨b1, 0, none⟩ u1).setCell ⟨b2, 0, none⟩ u2) b2 t2 u2 :=
  ⟨box_other (box_other (h0.set u0) n01) n02, box_other ((box_other h1 n01.symm).set u1) n12, (box_other (box_other h2 n02.symm) n12.symm).set u2⟩
theorem keeps3 (W : World) (b0 b1 b2 : Nat) (u0 u1 u2 : Value) : KeepsOthers W (((W.setCell ⟨b0, 0, none⟩ u0).setCell ⟨b1, 0, none⟩ u1).setCell ⟨b2, 0, none⟩ u2) :=
  ((KeepsOthers.setCell _ _ _).trans (KeepsOthers.setCell _ _ _)).trans (KeepsOthers.setCell _ _ _)
theorem keeps_fresh {W W' : World} (h : Fresh W W') : KeepsOthers W W' := KeepsOthers.of_grownBy (h.grownBy none) (fun j o e => by cases e)
theorem keeps_adds {W W' : World} {B : Nat} {v v' : Value} {l l' : List Rw} (h : Adds W B v l' v' W') (hr : RBuf 32 W B v l) : KeepsOthers W W' :=
  KeepsOthers.of_grownBy h.2.1 (fun j o ej hj => by
    rcases hr.2 with ⟨rfl, _⟩ | ⟨g, cap, cur, rfl, _, hgb, _⟩
    · simp [Value.ownBlock] at ej
    · obtain rfl : g = j := by simpa [Value.ownBlock] using ej
      rw [hgb] at hj; cases hj; rfl)
/-- What Cut answers. -/
def CutIs (w : World) (x : List Rw × Nat × Int) (e : Ending) (w' : World) : Prop :=
  ∃ v, e = .returned (.tuple #[v, .int .i64 (x.2.1 : Int), .int .i64 x.2.2]) ∧ RBuf 32 w' w.heap.size v x.1 ∧ Fresh w w'
set_option maxRecDepth 100000 in
set_option maxHeartbeats 2000000 in
theorem cutM_any (l : List UInt8) (w : World) (hs : l.length ≤ 100000) (hT : Tabs w) : Calls Tryd.prog 6 #[.string (tx l)] w (CutIs w (cutL V l)) := by
  have hsz := tx_size l
  have hsz2 : (tx l).size ≤ 100000 := by omega
  refine (callsIn_wide (n := 10)).1 ?_
  refine callsIn_of_wp_marks Tryd.func6 rfl trivial ?_ rfl
  simp only [Tryd.ntmps6, List.size_toArray, List.length_cons, List.length_nil, Nat.reduceAdd, Nat.reduceSub, Array.replicate_succ, Array.replicate_zero, List.push_toArray, List.append_toArray, List.nil_append, List.cons_append]
  gi_wp2_with (fail)
  refine ⟨trivial, ?_⟩
  refine (callsIn_wide.2 (lines9_any _ _)).mono ?_
  rintro e w1 ⟨rfl, rfl⟩
  gi_wp2
  obtain ⟨W0, hW0⟩ : ∃ W0, W0 = ((((w.alloc (Obj.cells #[Value.slice none 0 0] 23)).alloc (Obj.cells #[Value.int IntKind.i64 0] 3)).alloc (Obj.cells #[Value.int IntKind.i64 0] 24)).alloc (Obj.cells #[Value.string (tx l)] 9)) := ⟨_, rfl⟩
  rw [← hW0]
  have b0 : Boxed W0 w.heap.size 23 (.slice none 0 0) := by
    rw [hW0]
    exact (((Boxed.new w 23 _).alloc _).alloc _).alloc _
  have b1 : Boxed W0 (w.heap.size + 1) 3 (.int .i64 0) := by
    rw [hW0]
    have := Boxed.new (w.alloc (Obj.cells #[Value.slice none 0 0] 23)) 3 (.int .i64 0)
    rw [World.size_alloc] at this
    exact (this.alloc _).alloc _
  have b2 : Boxed W0 (w.heap.size + 1 + 1) 24 (.int .i64 0) := by
    rw [hW0]
    have := Boxed.new ((w.alloc (Obj.cells #[Value.slice none 0 0] 23)).alloc (Obj.cells #[Value.int IntKind.i64 0] 3)) 24 (.int .i64 0)
    rw [World.size_alloc, World.size_alloc] at this
    exact this.alloc _
  have b3 : Boxed W0 (w.heap.size + 1 + 1 + 1) 9 (.string (tx l)) := by
    rw [hW0]
    have := Boxed.new (((w.alloc (Obj.cells #[Value.slice none 0 0] 23)).alloc (Obj.cells #[Value.int IntKind.i64 0] 3)).alloc (Obj.cells #[Value.int IntKind.i64 0] 24)) 9 (.string (tx l))
    rw [World.size_alloc, World.size_alloc, World.size_alloc] at this
    exact this
  have hF0 : Fresh w W0 := by
    rw [hW0]
    exact ((((Fresh.refl w).alloc _).alloc _).alloc _).alloc _
  have hS0 : W0.heap.size = w.heap.size + 4 := by
    rw [hW0]; simp
  clear hW0
  have hnl := lnsA_len [] l
  refine wpIn_rangeFunc_ownG rfl (by omega) (gf := 17) (lb := #[.pointer (some ⟨w.heap.size + 1 + 1 + 1, 0, none⟩)]) rfl trivial (enters_of Tryd.func17 (by kernel_rfl) rfl)
    (iter_stops l (w.heap.size + 1 + 1 + 1) W0 9 (by omega) (by omega) (by omega) b3.cell) (fun _ _ => trivial) (fun _ _ _ _ _ _ _ _ => trivial) (Below.refl _ _) (fun _ => rfl)
    (fun pre W => (∃ v, Boxed W w.heap.size 23 v ∧ RBuf 32 W w.heap.size v (accX pre)) ∧ Boxed W (w.heap.size + 1) 3 (.int .i64 0) ∧ Boxed W (w.heap.size + 1 + 1) 24 (.int .i64 0) ∧ (∀ y ∈ pre, codeX y = 0) ∧ Fresh w W)
    (fun c pre W => c = .ret ∧ (∃ pre0 x, pre = pre0 ++ [x] ∧ (∀ y ∈ pre0, codeX y = 0) ∧ codeX x ≠ 0 ∧ Boxed W (w.heap.size + 1) 3 (.int .i64 (x.1 : Int)) ∧ Boxed W (w.heap.size + 1 + 1) 24 (.int .i64 (codeX x : Int))) ∧ Boxed W w.heap.size 23 (.slice none 0 0) ∧ Fresh w W)
    (fun s A B row hs hg hr => by
      obtain ⟨⟨v, h1, h2⟩, h3, h4, h5, h6⟩ := hs
      exact ⟨⟨v, box_own h1 hg hr, rbuf_own h2 hg hr⟩, box_own h3 hg hr, box_own h4 hg hr, h5, fresh_own h6 hF0.size hg hr⟩)
    (fun c s A B row hs hg hr => by
      obtain ⟨h1, ⟨p0, x, h2, h3, h4, h5, h6⟩, h7, h8⟩ := hs
      exact ⟨h1, ⟨p0, x, h2, h3, h4, box_own h5 hg hr, box_own h6 hg hr⟩, box_own h7 hg hr, fresh_own h8 hF0.size hg hr⟩)
    ⟨⟨_, b0, World.ownsRow_nil _ _ _ _⟩, b1, b2, by simp, hF0⟩
    (fun x => { tmps := #[.string (tx l), undef, .pointer (some ⟨w.heap.size, 0, none⟩), .pointer (some ⟨w.heap.size + 1, 0, none⟩), .pointer (some ⟨w.heap.size + 1 + 1, 0, none⟩), .int .i64 (x.1 : Int), .string (tx (clip x.2)), undef, undef, .string (tx l), .int .i64 (l.length : Int), .bool (decide (1048576 < (l.length : Int))), .string (tx l), .func (.func 17) #[] #[.pointer (some ⟨w.heap.size + 1 + 1 + 1, 0, none⟩)], .int .i64 (x.1 : Int), .string (tx (clip x.2)), undef, undef, undef, undef, undef, undef, undef, undef, undef, undef, undef, undef, undef, undef, undef, undef, undef], defers := [] }) ?assign ?body ?done ?stop
  case assign =>
    intro y x W K hK
    unfold encL
    gi_wp2
    exact hK
  case body =>
    rintro y pre x W ⟨⟨v, hv, hrow⟩, hb1, hb2, hgood, hF⟩ hlt
    obtain ⟨o, c, rfl⟩ := row_shape hrow
    have hcl := clip_len x.2
    have HM := Lib.hid (may_any (tx (clip x.2)) W (by rw [tx_size]; exact hcl) (hT.move hF))
    rw [tx_toList] at HM
    have hCX : codeX x = (if badL V (clip x.2) = true then 10 else match rem (clip x.2) with | none => 11 | some _ => 0) := rfl
    have hsx : (tx (clip x.2)).data.toList = clip x.2 := tx_toList _
    have hsl : (tx (clip x.2)).size ≤ 1000000 := by rw [tx_size]; exact hcl
    have HRM := Lib.hid (fun W => rem_any (tx (clip x.2)) W hsl)
    rw [tx_toList] at HRM
    have HADD := Lib.hid (fun (k : Nat) (W : World) h => add_any x.1 ((tx (clip x.2)).extract 0 k) (accX pre) w.heap.size (.slice o (accX pre).length c) W (by have := hsl; simp; omega) (by have := accX_len pre; omega) h)
    have HROWS : Hid (∀ k, rem (clip x.2) = some k → rowsX x = rowsS x.1 0 (Lib.trimRightB ((tx (clip x.2)).extract 0 k).data.toList 32)) := fun k hk => by
      unfold rowsX
      rw [hk, tx_extract, tx_toList, tx_toList]
      simp
    have hF' := Lib.hid hF
    have HROW := Lib.hid hrow
    have HG := Lib.hid hgood
    have HT := Lib.hid hT
    clear hF hrow hgood hT hcl hsx
    generalize hsS : tx (clip x.2) = S at *
    gi_wp2_with (fail)
    refine ⟨trivial, ?_⟩
    refine (CallsIn.inRound y (callsIn_wide.2 HM.out)).mono ?_
    rintro e W1 ⟨rfl, hf1⟩
    have a0 := hv.kept (hf1.grownBy none) (by simp)
    have a1 := hb1.kept (hf1.grownBy none) (by simp)
    have a2 := hb2.kept (hf1.grownBy none) (by simp)
    have HF1 := Lib.hid (hF'.out.trans hf1)
    have HK1 := Lib.hid (keeps_fresh hf1)
    have HROW1 := Lib.hid (HROW.out.fresh hf1)
    have z0 := a0.cell
    have z1 := a1.cell
    have z2 := a2.cell
    have y0 := a0.frozen
    have y1 := a1.frozen
    have y2 := a2.frozen
    have A0 := Lib.hid a0
    have A1 := Lib.hid a1
    have A2 := Lib.hid a2
    clear a0 a1 a2 hf1 hv hb1 hb2
    cases hbad : badL V (clip x.2) with
    | true =>
      rw [hbad, if_pos rfl] at hCX
      have HCX := Lib.hid hCX
      clear hCX
      gi_wp2
      obtain ⟨p0, p1, p2⟩ := box3 A0.out A1.out A2.out (by omega) (by omega) (by omega) (.slice none 0 0) (.int .i64 (x.1 : Int)) (.int .i64 10)
      exact ⟨(HK1.out.trans (keeps3 _ _ _ _ _ _ _)).from _, rfl, ⟨pre, x, rfl, HG.out, by rw [HCX.out]; decide, p1, by rw [HCX.out]; exact p2⟩, p0,
        ((HF1.out.setCell (p := ⟨w.heap.size, 0, none⟩) (Nat.le_refl _) _).setCell (p := ⟨w.heap.size + 1, 0, none⟩) (Nat.le_succ _) _).setCell (p := ⟨w.heap.size + 1 + 1, 0, none⟩) (by show w.heap.size ≤ w.heap.size + 1 + 1; omega) _⟩
    | false =>
      rw [hbad, if_neg (by simp)] at hCX
      cases hrem : rem (clip x.2) with
      | none =>
        rw [hrem] at hCX HRM
        have HCX : Hid (codeX x = 11) := hCX
        have HRM2 : Hid (∀ W, Calls Tryd.prog 11 #[.string S] W fun e w' => e = .returned (.tuple #[.string S, .bool false]) ∧ W = w') := HRM.out
        clear hCX HRM HADD HROWS
        gi_wp2_with (fail)
        refine ⟨trivial, ?_⟩
        refine (CallsIn.inRound y (callsIn_wide.2 (HRM2.out _))).mono ?_
        rintro e W2 ⟨rfl, rfl⟩
        gi_wp2
        obtain ⟨p0, p1, p2⟩ := box3 A0.out A1.out A2.out (by omega) (by omega) (by omega) (.slice none 0 0) (.int .i64 (x.1 : Int)) (.int .i64 11)
        exact ⟨(HK1.out.trans (keeps3 _ _ _ _ _ _ _)).from _, rfl, ⟨pre, x, rfl, HG.out, by rw [HCX.out]; decide, p1, by rw [HCX.out]; exact p2⟩, p0,
          ((HF1.out.setCell (p := ⟨w.heap.size, 0, none⟩) (Nat.le_refl _) _).setCell (p := ⟨w.heap.size + 1, 0, none⟩) (Nat.le_succ _) _).setCell (p := ⟨w.heap.size + 1 + 1, 0, none⟩) (by show w.heap.size ≤ w.heap.size + 1 + 1; omega) _⟩
      | some k =>
        rw [hrem] at hCX HRM
        have HCX : Hid (codeX x = 0) := hCX
        have HRX : Hid (rowsX x = rowsS x.1 0 (Lib.trimRightB (S.extract 0 k).data.toList 32)) := HROWS.out k hrem
        have HRM2 : Hid (∀ W, Calls Tryd.prog 11 #[.string S] W fun e w' => e = .returned (.tuple #[.string (S.extract 0 k), .bool true]) ∧ W = w') := HRM.out
        have HAD := Lib.hid (HADD.out k W1 (Nat.le_of_lt A0.out.lt) HROW1.out)
        clear hCX HRM HADD HROWS hrem
        generalize S.extract 0 k = T at *
        gi_wp2_with (fail)
        refine ⟨trivial, ?_⟩
        refine (CallsIn.inRound y (callsIn_wide.2 (HRM2.out _))).mono ?_
        rintro e W2 ⟨rfl, rfl⟩
        gi_wp2_with (fail)
        refine ⟨trivial, ?_⟩
        refine (CallsIn.inRound y (callsIn_wide.2 HAD.out)).mono ?_
        rintro e W3 ⟨v', rfl, hA⟩
        obtain ⟨o', c', rfl⟩ := row_shape hA.1
        have a0 := A0.out.kept hA.2.1 (A0.out.not_row (by decide) HROW1.out)
        have a1 := A1.out.kept hA.2.1 (A1.out.not_row (by decide) HROW1.out)
        have a2 := A2.out.kept hA.2.1 (A2.out.not_row (by decide) HROW1.out)
        have HA := Lib.hid hA
        have x0 := a0.cell
        have v0 := a0.frozen
        have C0 := Lib.hid a0
        have C1 := Lib.hid a1
        have C2 := Lib.hid a2
        have hln : (accX pre ++ rowsS x.1 0 (Lib.trimRightB T.data.toList 32)) = accX (pre ++ [x]) := by rw [accX_snoc, HRX.out]
        rw [hln] at HA ⊢
        clear hA a0 a1 a2 hln
        gi_wp2
        refine ⟨((HK1.out.trans (keeps_adds HA.out HROW1.out)).trans (KeepsOthers.setCell _ _ _)).from _, trivial, ⟨_, C0.out.set _, ?_⟩, box_other C1.out (by omega), box_other C2.out (by omega), ?_, ?_⟩
        · exact World.ownsRow.kept HA.out.1 (grownBy_setCell' _ _ _) (.inr (C0.out.not_row (by decide) HA.out.1).symm)
        · intro y hy
          rcases List.mem_append.1 hy with h | h
          · exact HG.out y h
          · rw [List.mem_singleton.1 h]; exact HCX.out
        · exact (HF1.out.grown HA.out.2.1 (fun g e => (HROW1.out.lt g e).1)).setCell (p := ⟨w.heap.size, 0, none⟩) (Nat.le_refl _) _
  case done =>
    rintro D xs W hD rfl ⟨⟨v, hv, hrow⟩, hb1, hb2, hgood, hF⟩ hK
    have hx := cut_full (lnsA [] l) 0 [] (fun x hx => by have := lnsA_mem l [] x hx; simp at this; omega) hgood
    rw [List.nil_append] at hx
    have HX : Hid (cutL V l = (accX (nums 0 (lnsA [] l)), 0, 0)) := hx
    clear hx
    obtain ⟨o, c, rfl⟩ := row_shape hrow
    have HROW := Lib.hid hrow
    have HF := Lib.hid hF
    have z0 := hv.cell
    have z1 := hb1.cell
    have z2 := hb2.cell
    have y0 := hv.frozen
    have y1 := hb1.frozen
    have y2 := hb2.frozen
    have A0 := Lib.hid hv
    have A1 := Lib.hid hb1
    have A2 := Lib.hid hb2
    have HK := Lib.hid hK
    have HD := Lib.hid hD
    clear hrow hF hv hb1 hb2 hK hD hgood
    gi_wp2
    obtain ⟨p0, p1, p2⟩ := box3 A0.out A1.out A2.out (by omega) (by omega) (by omega) (.slice o (accX (nums 0 (lnsA [] l))).length c) (.int .i64 0) (.int .i64 0)
    have K3 := (keeps3 W w.heap.size (w.heap.size + 1) (w.heap.size + 1 + 1) (.slice o (accX (nums 0 (lnsA [] l))).length c) (.int .i64 0) (.int .i64 0)).same D _ HK.out rfl
    have hF3 := ((HF.out.setCell (p := ⟨w.heap.size, 0, none⟩) (Nat.le_refl _) (.slice o (accX (nums 0 (lnsA [] l))).length c)).setCell (p := ⟨w.heap.size + 1, 0, none⟩) (Nat.le_succ _) (.int .i64 0)).setCell (p := ⟨w.heap.size + 1 + 1, 0, none⟩) (by show w.heap.size ≤ w.heap.size + 1 + 1; omega) (.int .i64 0)
    have r0 := HROW.out.kept (grownBy_setCell' W w.heap.size (.slice o (accX (nums 0 (lnsA [] l))).length c)) (.inr (A0.out.not_row (by decide) HROW.out).symm)
    have r1 := r0.kept (grownBy_setCell' _ (w.heap.size + 1) (.int .i64 0)) (.inr ((box_other A1.out (by omega)).not_row (by decide) r0).symm)
    have r2 := r1.kept (grownBy_setCell' _ (w.heap.size + 1 + 1) (.int .i64 0)) (.inr ((box_other (box_other A2.out (by omega)) (by omega)).not_row (by decide) r1).symm)
    have HD' := HD.out
    clear r0 r1
    generalize (((W.setCell ⟨w.heap.size, 0, none⟩ (.slice o (accX (nums 0 (lnsA [] l))).length c)).setCell ⟨w.heap.size + 1, 0, none⟩ (.int .i64 0)).setCell ⟨w.heap.size + 1 + 1, 0, none⟩ (.int .i64 0)) = W3 at *
    have g3 := grownBy_putObj' W3 D (.deferred none)
    have hr3 : ∀ r, some D = some r → W0.heap.size ≤ r ∧ ∃ o : Obj, W3.heap[r]? = some o ∧ o.isCells = false := fun r e => by cases e; exact ⟨HD', _, K3, rfl⟩
    have c0 := (box_own p0 g3 hr3).cell
    have c1 := (box_own p1 g3 hr3).cell
    have c2 := (box_own p2 g3 hr3).cell
    refine ⟨by simp, .inl ⟨_, _, rfl, run_takeDeferred K3, ?_⟩⟩
    refine ⟨.tuple #[.slice o (accX (nums 0 (lnsA [] l))).length c, .int .i64 0, .int .i64 0], ?_, ?_⟩
    · simp [results, Tryd.f6, go_sem, c0, c1, c2]
    · rw [HX.out]
      exact ⟨_, rfl, rbuf_own r2 g3 hr3, fresh_own hF3 hF0.size g3 hr3⟩
  case stop =>
    rintro D c pre W hD hSp ⟨rfl, ⟨p0, x, rfl, hg, hcx, hb1, hb2⟩, hv, hF⟩ hK
    have hx := cut_stop (lnsA [] l) 0 [] p0 x (fun x hx => by have := lnsA_mem l [] x hx; simp at this; omega) hSp hg hcx
    have HX : Hid (cutL V l = ([], x.1, (codeX x : Int))) := hx
    have HF := Lib.hid hF
    have z0 := hv.cell
    have z1 := hb1.cell
    have z2 := hb2.cell
    have A0 := Lib.hid hv
    have A1 := Lib.hid hb1
    have A2 := Lib.hid hb2
    have HK := Lib.hid hK
    have HD := Lib.hid hD
    clear hx hF hv hb1 hb2 hK hD hg hcx hSp
    gi_wp2
    have g3 := grownBy_putObj' W D (.deferred none)
    have hr3 : ∀ r, some D = some r → W0.heap.size ≤ r ∧ ∃ o : Obj, W.heap[r]? = some o ∧ o.isCells = false := fun r e => by cases e; exact ⟨HD.out, _, HK.out, rfl⟩
    have c0 := (box_own A0.out g3 hr3).cell
    have c1 := (box_own A1.out g3 hr3).cell
    have c2 := (box_own A2.out g3 hr3).cell
    refine ⟨by simp, .inl ⟨_, _, rfl, run_takeDeferred HK.out, ?_⟩⟩
    refine ⟨.tuple #[.slice none 0 0, .int .i64 (x.1 : Int), .int .i64 (codeX x : Int)], ?_, ?_⟩
    · simp [results, Tryd.f6, go_sem, c0, c1, c2]
    · rw [HX.out]
      exact ⟨_, rfl, World.ownsRow_nil _ _ _ _, fresh_own HF.out hF0.size g3 hr3⟩
end Go.Proofs.YtmenbgdkokegaaaDoor
