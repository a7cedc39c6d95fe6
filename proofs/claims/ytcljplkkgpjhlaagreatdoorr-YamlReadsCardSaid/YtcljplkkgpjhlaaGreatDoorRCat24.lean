/-
  Parts of the proof: Cut YFine YParse YREnd.
-/
import Derived.Test.YtcljplkkgpjhlaaGreatDoorRCat23
import Derived.RangeFuncWrites
import Derived.Test.YtcljplkkgpjhlaaGreatDoorRCat02
import Derived.Test.YtcljplkkgpjhlaaGreatDoorRCat22
set_option maxRecDepth 100000
set_option maxHeartbeats 8000000
namespace Go.Proofs.YtcljplkkgpjhlaaGreatDoorR
section
open Go.ChangeShapes Go.WideShapes Go.ChangeAt Go.RowKit Go.Shelf
attribute [local go_sem] Oper.semAt_some
variable {w : World}
abbrev V : List UInt8 → Bool := Lib.validD
def codeX (x : Nat × List UInt8) : Nat := if badL V (clip x.2) = true then 10 else match rem (clip x.2) with
  | none => 11
  | some _ => 0
def rowsX (x : Nat × List UInt8) : List Rw := match rem (clip x.2) with
  | none => []
  | some k => rowsS x.1 0 (Lib.trimRightB ((clip x.2).take k) 32)
def accX (l : List (Nat × List UInt8)) : List Rw := l.flatMap rowsX
theorem accX_snoc (l : List (Nat × List UInt8)) (x : Nat × List UInt8) : accX (l ++ [x]) = accX l ++ rowsX x := by simp [accX]
theorem trimR_len (l : List UInt8) : (Lib.trimRightB l 32).length ≤ l.length := by
  unfold Lib.trimRightB
  rw [List.length_reverse]
  have := (List.dropWhile_suffix (l := l.reverse) (fun x => x == (32 : UInt8))).length_le
  simpa using this
theorem rowsX_len (x : Nat × List UInt8) : (rowsX x).length ≤ 1000000 := by
  unfold rowsX
  split
  · simp
  · rename_i k _
    have h1 := rowsS_len x.1 (Lib.trimRightB ((clip x.2).take k) 32) 0
    have h2 := trimR_len ((clip x.2).take k)
    have h3 := clip_len x.2
    have h4 : ((clip x.2).take k).length ≤ (clip x.2).length := by simp; omega
    omega
theorem accX_len (l : List (Nat × List UInt8)) : (accX l).length ≤ l.length * 1000000 := by
  induction l with
  | nil => simp [accX]
  | cons x l ih =>
    have e : accX (x :: l) = rowsX x ++ accX l := by simp [accX]
    have := rowsX_len x
    rw [e, List.length_append, List.length_cons]
    omega
theorem lnsA_mem : ∀ (l c x : List UInt8), x ∈ lnsA c l → x.length ≤ c.length + l.length
  | [], c, x, h => by
    simp [lnsA] at h
    simp [h]
  | b :: r, c, x, h => by
    rw [lnsA] at h
    split at h
    · rcases List.mem_cons.1 h with rfl | h
      · omega
      · have := lnsA_mem r [] x h
        simp at this ⊢; omega
    · have := lnsA_mem r _ x h
      simp at this ⊢; omega
theorem cut_full : ∀ (ls : List (List UInt8)) (n : Nat) (acc : List Rw), (∀ l ∈ ls, l.length ≤ 1000000) → (∀ x ∈ nums n ls, codeX x = 0) → cutA V n ls acc = (acc ++ accX (nums n ls), 0, 0)
  | [], n, acc, _, _ => by simp [cutA, nums, accX]
  | l :: ls, n, acc, hl, h => by
    have h0 := h (n, l) (by simp [nums])
    have hc : clip l = l := clip_self (hl l (by simp))
    unfold codeX at h0
    dsimp only at h0
    rw [hc] at h0
    by_cases hb : badL V l = true
    · rw [if_pos hb] at h0; cases h0
    · rw [if_neg hb] at h0
      cases hr : rem l with
      | none => rw [hr] at h0; cases h0
      | some k =>
        have e : rowsX (n, l) = rowsS n 0 (Lib.trimRightB (l.take k) 32) := by
          unfold rowsX
          dsimp only
          rw [hc, hr]
        rw [cutA_step V (by simpa using hb) hr, cut_full ls (n + 1) _ (fun x hx => hl x (by simp [hx])) (fun x hx => h x (by simp [nums, hx]))]
        simp [nums, accX, e]
theorem cut_stop : ∀ (ls : List (List UInt8)) (n : Nat) (acc : List Rw) (pre : List (Nat × List UInt8)) (x : Nat × List UInt8), (∀ l ∈ ls, l.length ≤ 1000000) → pre ++ [x] <+: nums n ls → (∀ y ∈ pre, codeX y = 0) → codeX x ≠ 0 →
    cutA V n ls acc = ([], x.1, (codeX x : Int))
  | [], n, acc, pre, x, _, h, _, _ => by simp [nums] at h
  | l :: ls, n, acc, pre, x, hl, h, hg, hx => by
    have hc : clip l = l := clip_self (hl l (by simp))
    rw [nums] at h
    rcases pre with _ | ⟨y, pre⟩
    · simp at h
      subst h
      unfold codeX at hx ⊢
      dsimp only at hx ⊢
      rw [hc] at hx ⊢
      by_cases hb : badL V l = true
      · rw [if_pos hb] at hx ⊢
        exact cutA_bad V hb
      · rw [if_neg hb] at hx ⊢
        cases hr : rem l with
        | none => exact cutA_end V (by simpa using hb) hr
        | some k => rw [hr] at hx; exact absurd rfl hx
    · simp only [List.cons_append, List.cons_prefix_cons] at h
      obtain ⟨rfl, h⟩ := h
      have h0 := hg (n, l) (by simp)
      unfold codeX at h0
      dsimp only at h0
      rw [hc] at h0
      by_cases hb : badL V l = true
      · rw [if_pos hb] at h0; cases h0
      · rw [if_neg hb] at h0
        cases hr : rem l with
        | none => rw [hr] at h0; cases h0
        | some k =>
          rw [cutA_step V (by simpa using hb) hr]
          exact cut_stop ls (n + 1) _ pre x (fun x hx => hl x (by simp [hx])) h (fun y hy => hg y (by simp [hy])) hx
theorem row_shape {ty : Nat} {w : World} {B : Nat} {v : Value} {l : List Rw} (h : RBuf ty w B v l) : ∃ o c, v = .slice o l.length c := by
  rcases h.2 with ⟨h1, h2⟩ | ⟨g, cap, c2, h1, _⟩
  · exact ⟨none, 0, by rw [h1, h2]⟩
  · exact ⟨_, _, h1⟩
theorem box_own {A A' : World} {B0 : Nat} {row : Option Nat} {b t : Nat} {v : Value} (h : Boxed A b t v) (hg : A.grownBy A' row) (hr : ∀ r, row = some r → B0 ≤ r ∧ ∃ o : Obj, A.heap[r]? = some o ∧ o.isCells = false) : Boxed A' b t v :=
  h.kept hg (fun e => by
    obtain ⟨_, o, ho, hc⟩ := hr b e.symm
    rw [show A.heap[b]? = _ from h] at ho; cases ho; cases hc)
theorem rbuf_own {A A' : World} {B0 : Nat} {row : Option Nat} {ty B : Nat} {v : Value} {l : List Rw} (h : RBuf ty A B v l) (hg : A.grownBy A' row) (hr : ∀ r, row = some r → B0 ≤ r ∧ ∃ o : Obj, A.heap[r]? = some o ∧ o.isCells = false) : RBuf ty A' B v l := by
  refine World.ownsRow.kept h hg ?_
  rcases h.2 with ⟨rfl, _⟩ | ⟨g, cap, cur, rfl, _, hgb, _⟩
  · exact .inl rfl
  · refine .inr fun e' => ?_
    obtain ⟨_, o, ho, hc⟩ := hr g (by simpa [Value.ownBlock] using e'.symm)
    rw [hgb] at ho; cases ho; cases hc
theorem fresh_own {w A A' : World} {B0 : Nat} {row : Option Nat} (h : Fresh w A) (hB : w.heap.size ≤ B0) (hg : A.grownBy A' row) (hr : ∀ r, row = some r → B0 ≤ r ∧ ∃ o : Obj, A.heap[r]? = some o ∧ o.isCells = false) : Fresh w A' :=
  h.grown hg (fun g e => by have := (hr g e).1; omega)
theorem box_other {W : World} {b b' t : Nat} {v u : Value} (h : Boxed W b t v) (hne : b ≠ b') : Boxed (W.setCell ⟨b', 0, none⟩ u) b t v := h.kept (grownBy_setCell' W b' u) (by simpa using hne)
theorem box3 {W : World} {b0 b1 b2 t0 t1 t2 : Nat} {v0 v1 v2 : Value} (h0 : Boxed W b0 t0 v0) (h1 : Boxed W b1 t1 v1) (h2 : Boxed W b2 t2 v2) (n01 : b0 ≠ b1) (n02 : b0 ≠ b2) (n12 : b1 ≠ b2) (u0 u1 u2 : Value) :
    Boxed (((W.setCell ⟨b0, 0, none⟩ u0).setCell ⟨b1, 0, none⟩ u1).setCell ⟨b2, 0, none⟩ u2) b0 t0 u0 ∧ Boxed (((W.setCell ⟨b0, 0, none⟩ u0).setCell ⟨b1, 0, none⟩ u1).setCell ⟨b2, 0, none⟩ u2) b1 t1 u1 ∧
    Boxed (((W.setCell ⟨b0, 0, none⟩ u0).setCell ⟨b1, 0, none⟩ u1).setCell ⟨b2, 0, none⟩ u2) b2 t2 u2 :=
  ⟨box_other (box_other (h0.set u0) n01) n02, box_other ((box_other h1 n01.symm).set u1) n12, (box_other (box_other h2 n02.symm) n12.symm).set u2⟩
theorem keeps3 (W : World) (b0 b1 b2 : Nat) (u0 u1 u2 : Value) : KeepsOthers W (((W.setCell ⟨b0, 0, none⟩ u0).setCell ⟨b1, 0, none⟩ u1).setCell ⟨b2, 0, none⟩ u2) :=
  ((KeepsOthers.setCell _ _ _).trans (KeepsOthers.setCell _ _ _)).trans (KeepsOthers.setCell _ _ _)
theorem keeps_fresh {W W' : World} (h : Fresh W W') : KeepsOthers W W' := KeepsOthers.of_grownBy (h.grownBy none) (fun j o e => by cases e)
theorem keeps_adds {W W' : World} {B : Nat} {v v' : Value} {l l' : List Rw} (h : Adds W B v l' v' W') (hr : RBuf 90 W B v l) : KeepsOthers W W' :=
  KeepsOthers.of_grownBy h.2.1 (fun j o ej hj => by
    rcases hr.2 with ⟨rfl, _⟩ | ⟨g, cap, cur, rfl, _, hgb, _⟩
    · simp [Value.ownBlock] at ej
    · obtain rfl : g = j := by simpa [Value.ownBlock] using ej
      rw [hgb] at hj; cases hj; rfl)
def CutIs (w : World) (x : List Rw × Nat × Int) (e : Ending) (w' : World) : Prop :=
  ∃ v, e = .returned (.tuple #[v, .int .i64 (x.2.1 : Int), .int .i64 x.2.2]) ∧ RBuf 90 w' w.heap.size v x.1 ∧ Fresh w w'
theorem cutM_any (l : List UInt8) (w : World) (hs : l.length ≤ 100000) (hT : Tabs w) : Calls Tryz.prog 24 #[.string (tx l)] w (CutIs w (cutL V l)) := by
  have hsz := tx_size l
  have hsz2 : (tx l).size ≤ 100000 := by omega
  refine (callsIn_wide (n := 10)).1 ?_
  refine callsIn_of_wp_marks Tryz.func24 rfl trivial ?_ rfl
  simp only [Tryz.ntmps24, List.size_toArray, List.length_cons, List.length_nil, Nat.reduceAdd, Nat.reduceSub, Array.replicate_succ, Array.replicate_zero, List.push_toArray, List.append_toArray, List.nil_append, List.cons_append]
  gi_wp2_with (fail)
  refine ⟨trivial, ?_⟩
  refine (callsIn_wide.2 (lines9_any _ _)).mono ?_
  rintro e w1 ⟨rfl, rfl⟩
  gi_wp2
  obtain ⟨W0, hW0⟩ : ∃ W0, W0 = ((((w.alloc (Obj.cells #[Value.slice none 0 0] 55)).alloc (Obj.cells #[Value.int IntKind.i64 0] 3)).alloc (Obj.cells #[Value.int IntKind.i64 0] 28)).alloc (Obj.cells #[Value.string (tx l)] 9)) := ⟨_, rfl⟩
  rw [← hW0]
  have b0 : Boxed W0 w.heap.size 55 (.slice none 0 0) := by
    rw [hW0]
    exact (((Boxed.new w 55 _).alloc _).alloc _).alloc _
  have b1 : Boxed W0 (w.heap.size + 1) 3 (.int .i64 0) := by
    rw [hW0]
    have := Boxed.new (w.alloc (Obj.cells #[Value.slice none 0 0] 55)) 3 (.int .i64 0)
    rw [World.size_alloc] at this
    exact (this.alloc _).alloc _
  have b2 : Boxed W0 (w.heap.size + 1 + 1) 28 (.int .i64 0) := by
    rw [hW0]
    have := Boxed.new ((w.alloc (Obj.cells #[Value.slice none 0 0] 55)).alloc (Obj.cells #[Value.int IntKind.i64 0] 3)) 28 (.int .i64 0)
    rw [World.size_alloc, World.size_alloc] at this
    exact this.alloc _
  have b3 : Boxed W0 (w.heap.size + 1 + 1 + 1) 9 (.string (tx l)) := by
    rw [hW0]
    have := Boxed.new (((w.alloc (Obj.cells #[Value.slice none 0 0] 55)).alloc (Obj.cells #[Value.int IntKind.i64 0] 3)).alloc (Obj.cells #[Value.int IntKind.i64 0] 28)) 9 (.string (tx l))
    rw [World.size_alloc, World.size_alloc, World.size_alloc] at this
    exact this
  have hF0 : Fresh w W0 := by
    rw [hW0]
    exact ((((Fresh.refl w).alloc _).alloc _).alloc _).alloc _
  have hS0 : W0.heap.size = w.heap.size + 4 := by
    rw [hW0]; simp
  clear hW0
  have hnl := lnsA_len [] l
  refine wpIn_rangeFunc_ownG rfl (by omega) (gf := 76) (lb := #[.pointer (some ⟨w.heap.size + 1 + 1 + 1, 0, none⟩)]) rfl trivial (enters_of Tryz.func76 (by kernel_rfl) rfl)
    (iter_stops l (w.heap.size + 1 + 1 + 1) W0 9 (by omega) (by omega) (by omega) b3.cell) (fun _ _ => trivial) (fun _ _ _ _ _ _ _ _ => trivial) (Below.refl _ _) (fun _ => rfl)
    (fun pre W => (∃ v, Boxed W w.heap.size 55 v ∧ RBuf 90 W w.heap.size v (accX pre)) ∧ Boxed W (w.heap.size + 1) 3 (.int .i64 0) ∧ Boxed W (w.heap.size + 1 + 1) 28 (.int .i64 0) ∧ (∀ y ∈ pre, codeX y = 0) ∧ Fresh w W)
    (fun c pre W => c = .ret ∧ (∃ pre0 x, pre = pre0 ++ [x] ∧ (∀ y ∈ pre0, codeX y = 0) ∧ codeX x ≠ 0 ∧ Boxed W (w.heap.size + 1) 3 (.int .i64 (x.1 : Int)) ∧ Boxed W (w.heap.size + 1 + 1) 28 (.int .i64 (codeX x : Int))) ∧ Boxed W w.heap.size 55 (.slice none 0 0) ∧ Fresh w W)
    (fun s A B row hs hg hr => by
      obtain ⟨⟨v, h1, h2⟩, h3, h4, h5, h6⟩ := hs
      exact ⟨⟨v, box_own h1 hg hr, rbuf_own h2 hg hr⟩, box_own h3 hg hr, box_own h4 hg hr, h5, fresh_own h6 hF0.size hg hr⟩)
    (fun c s A B row hs hg hr => by
      obtain ⟨h1, ⟨p0, x, h2, h3, h4, h5, h6⟩, h7, h8⟩ := hs
      exact ⟨h1, ⟨p0, x, h2, h3, h4, box_own h5 hg hr, box_own h6 hg hr⟩, box_own h7 hg hr, fresh_own h8 hF0.size hg hr⟩)
    ⟨⟨_, b0, World.ownsRow_nil _ _ _ _⟩, b1, b2, by simp, hF0⟩
    (fun x => { tmps := #[.string (tx l), undef, .pointer (some ⟨w.heap.size, 0, none⟩), .pointer (some ⟨w.heap.size + 1, 0, none⟩), .pointer (some ⟨w.heap.size + 1 + 1, 0, none⟩), .int .i64 (x.1 : Int), .string (tx (clip x.2)), undef, undef, .string (tx l), .int .i64 (l.length : Int), .bool (decide (1048576 < (l.length : Int))), .string (tx l), .func (.func 76) #[] #[.pointer (some ⟨w.heap.size + 1 + 1 + 1, 0, none⟩)], .int .i64 (x.1 : Int), .string (tx (clip x.2)), undef, undef, undef, undef, undef, undef, undef, undef, undef, undef, undef, undef, undef, undef, undef, undef, undef], defers := [] }) ?assign ?body ?done ?stop
  case assign =>
    intro y x W K hK
    unfold encL
    gi_wp2
    exact hK
  case body =>
    rintro y pre x W ⟨⟨v, hv, hrow⟩, hb1, hb2, hgood, hF⟩ hlt
    obtain ⟨o, c, rfl⟩ := row_shape hrow
    have hcl := clip_len x.2
    have HM := Lib.hid (may_any (tx (clip x.2)) W (by rw [tx_size]; exact hcl) (hT.move hF))
    rw [tx_toList] at HM
    have hCX : codeX x = (if badL V (clip x.2) = true then 10 else match rem (clip x.2) with | none => 11 | some _ => 0) := rfl
    have hsx : (tx (clip x.2)).data.toList = clip x.2 := tx_toList _
    have hsl : (tx (clip x.2)).size ≤ 1000000 := by rw [tx_size]; exact hcl
    have HRM := Lib.hid (fun W => rem_any (tx (clip x.2)) W hsl)
    rw [tx_toList] at HRM
    have HADD := Lib.hid (fun (k : Nat) (W : World) h => add_any x.1 ((tx (clip x.2)).extract 0 k) (accX pre) w.heap.size (.slice o (accX pre).length c) W (by have := hsl; simp; omega) (by have := accX_len pre; omega) h)
    have HROWS : Hid (∀ k, rem (clip x.2) = some k → rowsX x = rowsS x.1 0 (Lib.trimRightB ((tx (clip x.2)).extract 0 k).data.toList 32)) := fun k hk => by
      unfold rowsX
      rw [hk, tx_extract, tx_toList, tx_toList]
      simp
    have hF' := Lib.hid hF
    have HROW := Lib.hid hrow
    have HG := Lib.hid hgood
    have HT := Lib.hid hT
    clear hF hrow hgood hT hcl hsx
    generalize hsS : tx (clip x.2) = S at *
    gi_wp2_with (fail)
    refine ⟨trivial, ?_⟩
    refine (CallsIn.inRound y (callsIn_wide.2 HM.out)).mono ?_
    rintro e W1 ⟨rfl, hf1⟩
    have a0 := hv.kept (hf1.grownBy none) (by simp)
    have a1 := hb1.kept (hf1.grownBy none) (by simp)
    have a2 := hb2.kept (hf1.grownBy none) (by simp)
    have HF1 := Lib.hid (hF'.out.trans hf1)
    have HK1 := Lib.hid (keeps_fresh hf1)
    have HROW1 := Lib.hid (HROW.out.fresh hf1)
    have z0 := a0.cell
    have z1 := a1.cell
    have z2 := a2.cell
    have y0 := a0.frozen
    have y1 := a1.frozen
    have y2 := a2.frozen
    have A0 := Lib.hid a0
    have A1 := Lib.hid a1
    have A2 := Lib.hid a2
    clear a0 a1 a2 hf1 hv hb1 hb2
    cases hbad : badL V (clip x.2) with
    | true =>
      rw [hbad, if_pos rfl] at hCX
      have HCX := Lib.hid hCX
      clear hCX
      gi_wp2
      obtain ⟨p0, p1, p2⟩ := box3 A0.out A1.out A2.out (by omega) (by omega) (by omega) (.slice none 0 0) (.int .i64 (x.1 : Int)) (.int .i64 10)
      exact ⟨(HK1.out.trans (keeps3 _ _ _ _ _ _ _)).from _, rfl, ⟨pre, x, rfl, HG.out, by rw [HCX.out]; decide, p1, by rw [HCX.out]; exact p2⟩, p0,
        ((HF1.out.setCell (p := ⟨w.heap.size, 0, none⟩) (Nat.le_refl _) _).setCell (p := ⟨w.heap.size + 1, 0, none⟩) (Nat.le_succ _) _).setCell (p := ⟨w.heap.size + 1 + 1, 0, none⟩) (by show w.heap.size ≤ w.heap.size + 1 + 1; omega) _⟩
    | false =>
      rw [hbad, if_neg (by simp)] at hCX
      cases hrem : rem (clip x.2) with
      | none =>
        rw [hrem] at hCX HRM
        have HCX : Hid (codeX x = 11) := hCX
        have HRM2 : Hid (∀ W, Calls Tryz.prog 50 #[.string S] W fun e w' => e = .returned (.tuple #[.string S, .bool false]) ∧ W = w') := HRM.out
        clear hCX HRM HADD HROWS
        gi_wp2_with (fail)
        refine ⟨trivial, ?_⟩
        refine (CallsIn.inRound y (callsIn_wide.2 (HRM2.out _))).mono ?_
        rintro e W2 ⟨rfl, rfl⟩
        gi_wp2
        obtain ⟨p0, p1, p2⟩ := box3 A0.out A1.out A2.out (by omega) (by omega) (by omega) (.slice none 0 0) (.int .i64 (x.1 : Int)) (.int .i64 11)
        exact ⟨(HK1.out.trans (keeps3 _ _ _ _ _ _ _)).from _, rfl, ⟨pre, x, rfl, HG.out, by rw [HCX.out]; decide, p1, by rw [HCX.out]; exact p2⟩, p0,
          ((HF1.out.setCell (p := ⟨w.heap.size, 0, none⟩) (Nat.le_refl _) _).setCell (p := ⟨w.heap.size + 1, 0, none⟩) (Nat.le_succ _) _).setCell (p := ⟨w.heap.size + 1 + 1, 0, none⟩) (by show w.heap.size ≤ w.heap.size + 1 + 1; omega) _⟩
      | some k =>
        rw [hrem] at hCX HRM
        have HCX : Hid (codeX x = 0) := hCX
        have HRX : Hid (rowsX x = rowsS x.1 0 (Lib.trimRightB (S.extract 0 k).data.toList 32)) := HROWS.out k hrem
        have HRM2 : Hid (∀ W, Calls Tryz.prog 50 #[.string S] W fun e w' => e = .returned (.tuple #[.string (S.extract 0 k), .bool true]) ∧ W = w') := HRM.out
        have HAD := Lib.hid (HADD.out k W1 (Nat.le_of_lt A0.out.lt) HROW1.out)
        clear hCX HRM HADD HROWS hrem
        generalize S.extract 0 k = T at *
        gi_wp2_with (fail)
        refine ⟨trivial, ?_⟩
        refine (CallsIn.inRound y (callsIn_wide.2 (HRM2.out _))).mono ?_
        rintro e W2 ⟨rfl, rfl⟩
        gi_wp2_with (fail)
        refine ⟨trivial, ?_⟩
        refine (CallsIn.inRound y (callsIn_wide.2 HAD.out)).mono ?_
        rintro e W3 ⟨v', rfl, hA⟩
        obtain ⟨o', c', rfl⟩ := row_shape hA.1
        have a0 := A0.out.kept hA.2.1 (A0.out.not_row (by decide) HROW1.out)
        have a1 := A1.out.kept hA.2.1 (A1.out.not_row (by decide) HROW1.out)
        have a2 := A2.out.kept hA.2.1 (A2.out.not_row (by decide) HROW1.out)
        have HA := Lib.hid hA
        have x0 := a0.cell
        have v0 := a0.frozen
        have C0 := Lib.hid a0
        have C1 := Lib.hid a1
        have C2 := Lib.hid a2
        have hln : (accX pre ++ rowsS x.1 0 (Lib.trimRightB T.data.toList 32)) = accX (pre ++ [x]) := by rw [accX_snoc, HRX.out]
        rw [hln] at HA ⊢
        clear hA a0 a1 a2 hln
        gi_wp2
        refine ⟨((HK1.out.trans (keeps_adds HA.out HROW1.out)).trans (KeepsOthers.setCell _ _ _)).from _, trivial, ⟨_, C0.out.set _, ?_⟩, box_other C1.out (by omega), box_other C2.out (by omega), ?_, ?_⟩
        · exact World.ownsRow.kept HA.out.1 (grownBy_setCell' _ _ _) (.inr (C0.out.not_row (by decide) HA.out.1).symm)
        · intro y hy
          rcases List.mem_append.1 hy with h | h
          · exact HG.out y h
          · rw [List.mem_singleton.1 h]; exact HCX.out
        · exact (HF1.out.grown HA.out.2.1 (fun g e => (HROW1.out.lt g e).1)).setCell (p := ⟨w.heap.size, 0, none⟩) (Nat.le_refl _) _
  case done =>
    rintro D xs W hD rfl ⟨⟨v, hv, hrow⟩, hb1, hb2, hgood, hF⟩ hK
    have hx := cut_full (lnsA [] l) 0 [] (fun x hx => by have := lnsA_mem l [] x hx; simp at this; omega) hgood
    rw [List.nil_append] at hx
    have HX : Hid (cutL V l = (accX (nums 0 (lnsA [] l)), 0, 0)) := hx
    clear hx
    obtain ⟨o, c, rfl⟩ := row_shape hrow
    have HROW := Lib.hid hrow
    have HF := Lib.hid hF
    have z0 := hv.cell
    have z1 := hb1.cell
    have z2 := hb2.cell
    have y0 := hv.frozen
    have y1 := hb1.frozen
    have y2 := hb2.frozen
    have A0 := Lib.hid hv
    have A1 := Lib.hid hb1
    have A2 := Lib.hid hb2
    have HK := Lib.hid hK
    have HD := Lib.hid hD
    clear hrow hF hv hb1 hb2 hK hD hgood
    gi_wp2
    obtain ⟨p0, p1, p2⟩ := box3 A0.out A1.out A2.out (by omega) (by omega) (by omega) (.slice o (accX (nums 0 (lnsA [] l))).length c) (.int .i64 0) (.int .i64 0)
    have K3 := (keeps3 W w.heap.size (w.heap.size + 1) (w.heap.size + 1 + 1) (.slice o (accX (nums 0 (lnsA [] l))).length c) (.int .i64 0) (.int .i64 0)).same D _ HK.out rfl
    have hF3 := ((HF.out.setCell (p := ⟨w.heap.size, 0, none⟩) (Nat.le_refl _) (.slice o (accX (nums 0 (lnsA [] l))).length c)).setCell (p := ⟨w.heap.size + 1, 0, none⟩) (Nat.le_succ _) (.int .i64 0)).setCell (p := ⟨w.heap.size + 1 + 1, 0, none⟩) (by show w.heap.size ≤ w.heap.size + 1 + 1; omega) (.int .i64 0)
    have r0 := HROW.out.kept (grownBy_setCell' W w.heap.size (.slice o (accX (nums 0 (lnsA [] l))).length c)) (.inr (A0.out.not_row (by decide) HROW.out).symm)
    have r1 := r0.kept (grownBy_setCell' _ (w.heap.size + 1) (.int .i64 0)) (.inr ((box_other A1.out (by omega)).not_row (by decide) r0).symm)
    have r2 := r1.kept (grownBy_setCell' _ (w.heap.size + 1 + 1) (.int .i64 0)) (.inr ((box_other (box_other A2.out (by omega)) (by omega)).not_row (by decide) r1).symm)
    have HD' := HD.out
    clear r0 r1
    generalize (((W.setCell ⟨w.heap.size, 0, none⟩ (.slice o (accX (nums 0 (lnsA [] l))).length c)).setCell ⟨w.heap.size + 1, 0, none⟩ (.int .i64 0)).setCell ⟨w.heap.size + 1 + 1, 0, none⟩ (.int .i64 0)) = W3 at *
    have g3 := grownBy_putObj' W3 D (.deferred none)
    have hr3 : ∀ r, some D = some r → W0.heap.size ≤ r ∧ ∃ o : Obj, W3.heap[r]? = some o ∧ o.isCells = false := fun r e => by cases e; exact ⟨HD', _, K3, rfl⟩
    have c0 := (box_own p0 g3 hr3).cell
    have c1 := (box_own p1 g3 hr3).cell
    have c2 := (box_own p2 g3 hr3).cell
    refine ⟨by simp, .inl ⟨_, _, rfl, run_takeDeferred K3, ?_⟩⟩
    refine ⟨.tuple #[.slice o (accX (nums 0 (lnsA [] l))).length c, .int .i64 0, .int .i64 0], ?_, ?_⟩
    · simp [results, Tryz.f24, go_sem, c0, c1, c2]
    · rw [HX.out]
      exact ⟨_, rfl, rbuf_own r2 g3 hr3, fresh_own hF3 hF0.size g3 hr3⟩
  case stop =>
    rintro D c pre W hD hSp ⟨rfl, ⟨p0, x, rfl, hg, hcx, hb1, hb2⟩, hv, hF⟩ hK
    have hx := cut_stop (lnsA [] l) 0 [] p0 x (fun x hx => by have := lnsA_mem l [] x hx; simp at this; omega) hSp hg hcx
    have HX : Hid (cutL V l = ([], x.1, (codeX x : Int))) := hx
    have HF := Lib.hid hF
    have z0 := hv.cell
    have z1 := hb1.cell
    have z2 := hb2.cell
    have A0 := Lib.hid hv
    have A1 := Lib.hid hb1
    have A2 := Lib.hid hb2
    have HK := Lib.hid hK
    have HD := Lib.hid hD
    clear hx hF hv hb1 hb2 hK hD hg hcx hSp
    gi_wp2
    have g3 := grownBy_putObj' W D (.deferred none)
    have hr3 : ∀ r, some D = some r → W0.heap.size ≤ r ∧ ∃ o : Obj, W.heap[r]? = some o ∧ o.isCells = false := fun r e => by cases e; exact ⟨HD.out, _, HK.out, rfl⟩
    have c0 := (box_own A0.out g3 hr3).cell
    have c1 := (box_own A1.out g3 hr3).cell
    have c2 := (box_own A2.out g3 hr3).cell
    refine ⟨by simp, .inl ⟨_, _, rfl, run_takeDeferred HK.out, ?_⟩⟩
    refine ⟨.tuple #[.slice none 0 0, .int .i64 (x.1 : Int), .int .i64 (codeX x : Int)], ?_, ?_⟩
    · simp [results, Tryz.f24, go_sem, c0, c1, c2]
    · rw [HX.out]
      exact ⟨_, rfl, World.ownsRow_nil _ _ _ _, fresh_own HF.out hF0.size g3 hr3⟩
end
namespace y
structure RowOk (K M : Nat) (r : Rw) : Prop where
  line : r.line ≤ K
  ind : r.indent ≤ M
  len : r.text.length ≤ M
  text : r.dash = true ∨ (r.text ≠ [] ∧ r.text.getLast? ≠ some 32)
theorem trimR_last (l : List UInt8) : (Lib.trimRightB l 32).getLast? ≠ some 32 := by
  unfold Lib.trimRightB
  rw [List.getLast?_reverse]
  intro h
  have := List.head?_dropWhile_not (fun x : UInt8 => x == 32) l.reverse
  rw [h] at this
  simp at this
theorem rowsS_ok (n M : Nat) : ∀ (l : List UInt8) (a : Nat), l.getLast? ≠ some 32 → a + l.length ≤ M → ∀ r ∈ rowsS n a l, RowOk n M r
  | [], a, _, _, r, h => by rw [rowsS] at h; cases h
  | c :: t, a, hl, hm, r, h => by
    have hl' : t.getLast? ≠ some 32 := by
      intro e
      cases t with
      | nil => cases e
      | cons d t => exact hl (by rw [List.getLast?_cons_cons]; exact e)
    have hm' : a + 1 + t.length ≤ M := by rw [List.length_cons] at hm; omega
    rw [rowsS] at h
    split at h
    · exact rowsS_ok n M t (a + 1) hl' hm' r h
    · split at h
      · rcases List.mem_cons.1 h with rfl | h
        · exact ⟨Nat.le_refl _, by dsimp only; omega, by simp, .inl rfl⟩
        · exact rowsS_ok n M t (a + 1) hl' hm' r h
      · rw [List.mem_singleton] at h
        subst h
        exact ⟨Nat.le_refl _, by dsimp only; omega, by dsimp only; omega, .inr ⟨by simp, hl⟩⟩
theorem RowOk.mono {K K' M : Nat} {r : Rw} (h : RowOk K M r) (hk : K ≤ K') : RowOk K' M r := ⟨Nat.le_trans h.line hk, h.ind, h.len, h.text⟩
theorem cutA_ok (V : List UInt8 → Bool) (K M : Nat) : ∀ (ls : List (List UInt8)) (n : Nat) (acc : List Rw), (∀ l ∈ ls, l.length ≤ M) → n + ls.length ≤ K → (∀ r ∈ acc, RowOk K M r) →
    (∀ r ∈ (cutA V n ls acc).1, RowOk K M r) ∧ (cutA V n ls acc).1.length ≤ acc.length + (ls.map List.length).sum ∧ (cutA V n ls acc).2.1 ≤ K
  | [], n, acc, _, _, ha => by rw [cutA]; exact ⟨ha, by simp, Nat.zero_le _⟩
  | l :: ls, n, acc, hl, hk, ha => by
    rw [List.length_cons] at hk
    rw [cutA]
    split
    · exact ⟨fun r h => (by cases h), by simp, by dsimp only; omega⟩
    · split
      · exact ⟨fun r h => (by cases h), by simp, by dsimp only; omega⟩
      · rename_i k _
        have h1 := rowsS_len n (Lib.trimRightB (l.take k) 32) 0
        have h2 := trimR_len (l.take k)
        have h3 : (l.take k).length ≤ l.length := by simp; omega
        have h4 := hl l (List.mem_cons_self ..)
        obtain ⟨k1, k2, k3⟩ := cutA_ok V K M ls (n + 1) (acc ++ rowsS n 0 (Lib.trimRightB (l.take k) 32)) (fun x hx => hl x (List.mem_cons_of_mem _ hx)) (by omega) (fun r h => by
          rcases List.mem_append.1 h with h | h
          · exact ha r h
          · exact (rowsS_ok n M _ 0 (trimR_last _) (by omega) r h).mono (by omega))
        refine ⟨k1, ?_, k3⟩
        rw [List.length_append] at k2
        rw [List.map_cons, List.sum_cons]
        omega
theorem lnsA_sum : ∀ (l c : List UInt8), ((lnsA c l).map List.length).sum ≤ c.length + l.length
  | [], c => by simp [lnsA]
  | b :: r, c => by
    rw [lnsA]
    split
    · have := lnsA_sum r []
      simp at this ⊢; omega
    · have := lnsA_sum r (c ++ [b])
      simp at this ⊢; omega
theorem cutL_fine (V : List UInt8 → Bool) (l : List UInt8) (h : l.length ≤ 90000) : Fine (cutL V l).1 ∧ (cutL V l).2.1 ≤ 1000000 := by
  have hl := lnsA_len [] l
  obtain ⟨h1, h2, h3⟩ := cutA_ok V 90001 90000 (lnsA [] l) 0 [] (fun x hx => by have := lnsA_mem l [] x hx; simp at this; omega) (by omega) (fun r h => by cases h)
  have hs := lnsA_sum l []
  simp only [List.length_nil] at h2 hs
  refine ⟨⟨?_, fun r hr => ?_⟩, ?_⟩
  · unfold cutL; omega
  · have k := h1 r hr
    exact ⟨by have := k.line; omega, by have := k.ind; omega, k.len, k.text⟩
  · unfold cutL; omega
end y
namespace y
open Go.ChangeShapes Go.WideShapes Go.ChangeAt Go.RowKit
attribute [local go_sem ↓] Go.wp_at_zero Go.wp_at_succ
variable {w : World}
def MBox (w : World) (g : Nat) : Prop := w.heap[g]? = some (.cells #[.int .i64 0, .int .i64 0] 30 (0, 0))
structure MFacts (w : World) (g : Nat) : Prop where
  c0 : w.cell? ⟨g, 0, none⟩ = some (.int .i64 0)
  c1 : w.cell? ⟨g, 1, none⟩ = some (.int .i64 0)
  f : ∀ i, w.frozen? ⟨g, i, none⟩ = false
  lt : g < w.heap.size
theorem MBox.facts {w : World} {g : Nat} (h : MBox w g) : MFacts w g :=
  ⟨cell_of_at h rfl, cell_of_at h rfl, fun i => by simp [World.frozen?, show w.heap[g]? = some (.cells #[.int .i64 0, .int .i64 0] 30 (0, 0)) from h], v.lt_of_at h⟩
theorem MBox.wr {p : Nat → Prop} {w w' : World} {g : Nat} (h : MBox w g) (f : Wr p w w') (hp : ¬ p g) : MBox w' g := f.at hp h
theorem MBox.move {w w' : World} {g : Nat} (h : MBox w g) (f : Fresh w w') : MBox w' g := h.wr (p := fun _ => False) (.of_fresh f) id
structure PBoxes (w w0 : World) (sz : Nat) : Prop where
  eq : w.heap.size = sz
  vb : VBox w0 sz
  mb : MBox w0 (sz + 1)
  fr : Fresh w w0
theorem pboxes_new (w : World) : PBoxes w ((w.alloc (.cells zcells 27 (0, 0))).alloc (.cells #[.int .i64 0, .int .i64 0] 30 (0, 0))) w.heap.size :=
  ⟨rfl, (VBox.new w).move ((Fresh.refl _).alloc _), by have := v.at_new (w.alloc (.cells zcells 27 (0, 0))) (.cells #[.int .i64 0, .int .i64 0] 30 (0, 0)); rwa [World.size_alloc] at this, ((Fresh.refl w).alloc _).alloc _⟩
theorem PBoxes.move {w w0 w1 : World} {sz : Nat} (h : PBoxes w w0 sz) (f : Fresh w0 w1) : PBoxes w w1 sz := ⟨h.eq, h.vb.move f, h.mb.move f, h.fr.trans f⟩
theorem parse_bad (l : List UInt8) (w : World) (ln : Nat) (code : Int) (hc : (code != 0) = true)
    (hq : ∀ W : World, Fresh w W → Calls Tryz.prog 24 #[.string (tx l)] W fun e w' => ∃ a n c, e = .returned (.tuple #[.slice a n c, .int .i64 (ln : Int), .int .i64 code]) ∧ Fresh W w') :
    Calls Tryz.prog 7 #[.string (tx l)] w fun e w' => e = .returned (.tuple #[v.M.zero.val, misV ln code]) ∧ Fresh w w' := by
  have hmf : ∀ (fn : Fn) (first cap : Array Value) (w : World), (Instr.makeFunc fn first cap).run Tryz.prog w = .ok (.func fn first cap) w := fun _ _ _ _ => rfl
  have HQ := Lib.hid hq
  have HB := Lib.hid (pboxes_new w)
  clear hq
  go_enter_defers Tryz.func7, Tryz.ntmps7
  go_wp2_with fail
  generalize (w.alloc (.cells zcells 27 (0, 0))).alloc (.cells #[.int .i64 0, .int .i64 0] 30 (0, 0)) = w0 at *
  generalize w.heap.size = sz at *
  refine (HQ.out _ HB.out.fr).mono ?_
  rintro e w1 ⟨a, n, c, rfl, hf⟩
  obtain ⟨c0, c1, c2, c3, c4, c5, f, lt⟩ := (HB.out.move hf).vb.facts
  have f0 := f 0; have f1 := f 1; have f2 := f 2; have f3 := f 3; have f4 := f 4; have f5 := f 5
  obtain ⟨m0, m1, g, mlt⟩ := (HB.out.move hf).mb.facts
  have g0 := g 0; have g1 := g 1
  have HF := Lib.hid (HB.out.move hf)
  clear hf f g
  go_wp2_with fail
  refine ⟨.tuple #[.agg #[.int .i64 0, .bool false, .int .i64 0, .string ⟨#[]⟩, .slice none 0 0, .slice none 0 0], .agg #[.int .i64 (ln : Int), .int .i64 code]], by simp [results, Tryz.results7, go_sem, *], rfl, ?_⟩
  have he := HF.out.eq
  exact Wr.toFresh (p := fun k => w.heap.size ≤ k) ((((Wr.of_fresh HF.out.fr).set6 (.inl (by omega)) _ _ _ _ _ _).set (.inl (by omega)) _).set (.inl (by omega)) _) (fun k hk h => by omega)
theorem cutA_line (V : List UInt8 → Bool) : ∀ (ls : List (List UInt8)) (n : Nat) (acc : List Rw), (cutA V n ls acc).2.2 = 0 → (cutA V n ls acc).2.1 = 0
  | [], n, acc, _ => by rw [cutA]
  | l :: ls, n, acc, h => by
    rw [cutA] at h ⊢
    split at h
    · cases h
    · rename_i hb
      rw [if_neg hb]
      split at h
      · cases h
      · rename_i k hk
        exact cutA_line V ls (n + 1) _ h
def ParseIs (w : World) (x : v.V × Nat × Int) (e : Ending) (w' : World) : Prop :=
  (∃ m : v.M, e = .returned (.tuple #[m.val, misV x.2.1 x.2.2]) ∧ m.plain = x.1 ∧ m.New w.heap.size w') ∧ Fresh w w'
def resM (x : Res) : v.V × Nat × Int := match x with
  | .ok y => (y, 0, 0)
  | .error e => (zV, e.1, e.2)
structure RowsAt0 (w : World) (a : Option Addr) (c : Nat) (R : List Rw) : Prop where
  cap : R.length ≤ c
  mx : c ≤ 9223372036854775807
  row : R = [] ∨ ∃ g, a = some ⟨g, 0, none⟩ ∧ g < w.heap.size ∧ RowsIn w g 0 R
theorem rdr_new {w : World} {a : Option Addr} {c : Nat} {R : List Rw} (h : RowsAt0 w a c R) : Rdr (w.alloc (.cells #[.slice a R.length c, .int .i64 0] 60)) w.heap.size R 0 :=
  ⟨a, c, v.at_new w _, h.cap, h.mx, h.row.imp_right fun ⟨g, e, hg, hr⟩ => ⟨g, 0, e, hg, fun i hi j u hu => (Wr.of_fresh (p := fun _ => False) ((Fresh.refl w).alloc _)).cell id (hr i hi j u hu)⟩⟩
theorem parse_doc (l : List UInt8) (w : World) (R : List Rw) (x : Res)
    (hq : ∀ W : World, Fresh w W → Calls Tryz.prog 24 #[.string (tx l)] W fun e w' => ∃ a c, e = .returned (.tuple #[.slice a R.length c, .int .i64 0, .int .i64 0]) ∧ RowsAt0 w' a c R ∧ Fresh W w')
    (hd : ∀ (W : World) (b : Nat), Fresh w W → w.heap.size ≤ b → Rdr W b R 0 → Calls Tryz.prog 26 #[.pointer (some ⟨b, 0, none⟩)] W (BlkIs W b x [])) :
    Calls Tryz.prog 7 #[.string (tx l)] w (ParseIs w (resM x)) := by
  have hmf : ∀ (fn : Fn) (first cap : Array Value) (w : World), (Instr.makeFunc fn first cap).run Tryz.prog w = .ok (.func fn first cap) w := fun _ _ _ _ => rfl
  have HQ := Lib.hid hq
  have HD := Lib.hid hd
  have HB := Lib.hid (pboxes_new w)
  clear hq hd
  go_enter_defers Tryz.func7, Tryz.ntmps7
  go_wp2_with fail
  generalize (w.alloc (.cells zcells 27 (0, 0))).alloc (.cells #[.int .i64 0, .int .i64 0] 30 (0, 0)) = w0 at *
  generalize w.heap.size = sz at *
  refine (HQ.out _ HB.out.fr).mono ?_
  rintro e w1 ⟨a, c, rfl, hra, hf⟩
  have HF := Lib.hid (HB.out.move hf)
  have HR := Lib.hid (rdr_new hra)
  clear hf hra
  generalize R.length = n at *
  go_wp2_with fail
  have HP : Hid (PBoxes w (w1.alloc (.cells #[.slice a n c, .int .i64 0] 60)) sz) := HF.out.move ((Fresh.refl _).alloc _)
  have HSB : Hid (sz + 1 < w1.heap.size) := HF.out.mb.facts.lt
  have HSW : Hid (w1.heap.size < (w1.alloc (.cells #[.slice a n c, .int .i64 0] 60)).heap.size) := by rw [Hid, World.size_alloc]; omega
  generalize w1.alloc (.cells #[.slice a n c, .int .i64 0] 60) = wr at *
  generalize w1.heap.size = b at *
  refine (HD.out _ _ HP.out.fr (by have := HSB.out; omega) HR.out).mono ?_
  cases x with
  | error er =>
    rintro e w2 ⟨hp, hg2⟩
    have HG2 := Lib.hid hg2
    have HV : Hid (VBox w2 sz) := HP.out.vb.wr hg2 (fun e => by have := HSB.out; omega)
    have HM : Hid (MBox w2 (sz + 1)) := HP.out.mb.wr hg2 (fun e => by have := HSB.out; omega)
    unfold Panics at hp
    subst hp
    clear hg2
    refine leaves_cons (f := 25) (args := #[.pointer (some ⟨sz, 0, none⟩), .pointer (some ⟨sz + 1, 0, none⟩)]) (by simp) (by simp [go_sem]) ?_
    refine (catch_mistake sz (sz + 1) er.1 er.2 w2 HV.out HM.out (by omega)).mono ?_
    rintro e u' w3 ⟨rfl, rfl, hv3, hm3, hw3⟩
    have HF3 : Hid (Fresh w w3) := Wr.toFresh (p := fun k => w.heap.size ≤ k) (((Wr.of_fresh HP.out.fr).trans (HG2.out.mono fun i e => by have := HP.out.eq; have := HSB.out; omega)).trans (hw3.mono fun i e => by have := HP.out.eq; omega)) (fun k hk h => by omega)
    have HV3 := Lib.hid hv3
    obtain ⟨c0, c1, c2, c3, c4, c5, f, lt⟩ := hv3.facts
    have m0 : w3.cell? ⟨sz + 1, 0, none⟩ = some (.int .i64 (er.1 : Int)) := cell_of_at hm3 rfl
    have m1 : w3.cell? ⟨sz + 1, 1, none⟩ = some (.int .i64 er.2) := cell_of_at hm3 rfl
    have mlt := v.lt_of_at hm3
    clear hw3 hv3 hm3 f
    refine ⟨.tuple #[.agg #[.int .i64 0, .bool false, .int .i64 0, .string ⟨#[]⟩, .slice none 0 0, .slice none 0 0], .agg #[.int .i64 (er.1 : Int), .int .i64 er.2]], by simp [results, Tryz.results7, go_sem, *], ⟨v.M.zero, rfl, rfl, flat_new zV _ _ (by decide)⟩, HF3.out⟩
  | ok y =>
    rintro e w2 ⟨⟨m, line', rfl, hp, hn, hr2⟩, hg2⟩
    have HG2 := Lib.hid hg2
    have HP2 := Lib.hid hp
    have HN2 := Lib.hid hn
    obtain ⟨c0, c1, c2, c3, c4, c5, f, lt⟩ := (HP.out.vb.wr hg2 (fun e => by have := HSB.out; omega)).facts
    have f0 := f 0; have f1 := f 1; have f2 := f 2; have f3 := f 3; have f4 := f 4; have f5 := f 5
    obtain ⟨m0, m1, g, mlt⟩ := (HP.out.mb.wr hg2 (fun e => by have := HSB.out; omega)).facts
    have g0 := g 0; have g1 := g 1
    clear hp hn hr2 hg2 f g
    obtain ⟨mk, mf, mn, ms, mla, mlc, ml, mka, mkc, mks⟩ := m
    dsimp only [v.M.val]
    go_wp2
    refine leaves_cons (f := 25) (args := #[.pointer (some ⟨sz, 0, none⟩), .pointer (some ⟨sz + 1, 0, none⟩)]) (by simp) (by simp [go_sem]) ?_
    refine (catch_idle sz (sz + 1) _).mono ?_
    rintro e u' w3 ⟨rfl, rfl, rfl⟩
    refine ⟨.tuple #[.agg #[.int .i64 mk, .bool mf, .int .i64 mn, .string ms, .slice mla ml.length mlc, .slice mka mks.length mkc], .agg #[.int .i64 0, .int .i64 0]], by simp [results, Tryz.results7, go_sem, *], ⟨.mk mk mf mn ms mla mlc ml mka mkc mks, rfl, HP2.out, ?_⟩, ?_⟩
    · have he := HP.out.eq
      have hb := HSB.out
      have hw := HSW.out
      exact (new_wr HN2.out (((Wr.refl (fun k => k = sz ∨ k = sz + 1) w2).set6 (.inl (.inl rfl)) _ _ _ _ _ _ |>.set (.inl (.inr rfl)) _).set (.inl (.inr rfl)) _) (fun k h => by omega)).mono (by omega)
    · have he := HP.out.eq
      have hb := HSB.out
      exact Wr.toFresh (p := fun k => w.heap.size ≤ k) (((((Wr.of_fresh HP.out.fr).trans (HG2.out.mono fun i e => by omega)).set6 (.inl (by omega)) _ _ _ _ _ _).set (.inl (by omega)) _).set (.inl (by omega)) _) (fun k hk h => by omega)
theorem rbuf_rows {w : World} {B : Nat} {o : Option Addr} {c : Nat} {R : List Rw} (h : RBuf 90 w B (.slice o R.length c) R) : RowsAt0 w o c R := by
  rcases h.2 with ⟨h1, h2⟩ | ⟨g, cap, cur, h1, hB, hg, hc, hm, hs, ht⟩
  · injection h1 with h3 h4 h5
    exact ⟨by omega, by omega, .inl (List.length_eq_zero_iff.1 h2)⟩
  · injection h1 with h3 h4 h5
    subst h5
    have hmx : maxLen = 9223372036854775807 := rfl
    refine ⟨hc, by omega, .inr ⟨g, h3, v.lt_of_at hg, fun i hi j u hu => ?_⟩⟩
    subst h3
    have hj : j < 4 := by
      have : (rcell R[i]).length = 4 := rfl
      have := (List.getElem?_eq_some_iff.1 hu).1
      omega
    have := h.cell i hi j hj hu
    rwa [Nat.zero_add]
theorem parse_any (l : List UInt8) (w : World) (hl : l.length ≤ 90000) (hE : Env w) : Calls Tryz.prog 7 #[.string (tx l)] w (ParseIs w (parseM l)) := by
  obtain ⟨hfine, hln⟩ := cutL_fine Lib.validD l hl
  have hcut : ∀ W : World, Fresh w W → Calls Tryz.prog 24 #[.string (tx l)] W (CutIs W (cutL Lib.validD l)) := fun W f => cutM_any l W (by omega) (hE.move f).tabs
  unfold parseM
  by_cases hc : (cutL Lib.validD l).2.2 = 0
  · rw [if_neg (by simpa using hc), parseR_doc]
    have h0 : (cutL Lib.validD l).2.1 = 0 := cutA_line _ _ _ _ hc
    have k := parse_doc l w (cutL Lib.validD l).1 (docM (cutL Lib.validD l).1) (fun W f => (hcut W f).mono fun e w' k => by
      obtain ⟨v, rfl, hr, hf⟩ := k
      obtain ⟨o, c, rfl⟩ := row_shape hr
      exact ⟨o, c, by rw [h0, hc]; rfl, rbuf_rows hr, hf⟩) (fun W b f hb hr => document_any b _ 0 W hfine hr (hE.move f) (.inr ⟨w, hE, hb, f⟩))
    unfold resM at k
    exact k
  · rw [if_pos hc]
    exact (parse_bad l w (cutL Lib.validD l).2.1 (cutL Lib.validD l).2.2 (by simpa using hc) (fun W f => (hcut W f).mono fun e w' k => by
      obtain ⟨v, rfl, hr, hf⟩ := k
      obtain ⟨o, c, rfl⟩ := row_shape hr
      exact ⟨o, _, c, rfl, hf⟩)).mono fun e w' k => ⟨⟨v.M.zero, k.1, rfl, flat_new zV _ _ (by decide)⟩, k.2⟩
theorem seg_at (ind : Int) (R : List Rw) (q : Nat) (h : q < R.length) : (seg ind (R.drop q)).length = if ind < (R[q].indent : Int) then (seg ind (R.drop (q + 1))).length + 1 else 0 := by
  unfold seg
  rw [List.drop_eq_getElem_cons h, List.takeWhile_cons]
  by_cases k : ind < (R[q].indent : Int)
  · rw [decide_eq_true k, if_pos rfl, if_pos k, List.length_cons]
  · rw [decide_eq_false k, if_neg (by simp), if_neg k, List.length_nil]
theorem rend_any (R : List Rw) (a : Option Addr) (c : Nat) (w : World) (h : RowsAt0 w a c R) (hlen : R.length ≤ 1000000) (at0 : Nat) (ind : Int) (hat : at0 ≤ R.length) :
    Calls Tryz.prog 60 #[.slice a R.length c, .int .i64 (at0 : Int), .int .i64 ind] w fun e w' => e = .returned (.int .i64 ((at0 + (seg ind (R.drop at0)).length : Nat) : Int)) ∧ w = w' := by
  have HR := Lib.hid h
  clear h
  generalize hT : at0 + (seg ind (R.drop at0)).length = T
  have HT := Lib.hid hT
  clear hT
  go_enter Tryz.func60, Tryz.ntmps60
  go_wp2
  go_loop [1] (fun i => ∃ q : Nat, q ≤ R.length ∧ i = .int .i64 (q : Int) ∧ Hid (q + (seg ind (R.drop q)).length = T)) (fun i => R.length - (intOf i).toNat)
  case atStart => exact ⟨at0, hat, rfl, HT.out⟩
  case round =>
    obtain ⟨q, hq, rfl, HQ⟩ := hrel
    by_cases hlt : q < R.length
    · have HS := Lib.hid (seg_at ind R q hlt)
      obtain ⟨g, rfl, hg, hrows⟩ := HR.out.row.resolve_left (fun e => by subst e; simp at hlt)
      have hcell : w.cell? ⟨g, q * 4 + 1, none⟩ = some (.int .i64 (R[q].indent : Int)) := by
        have := hrows q hlt 1 (.int .i64 (R[q].indent : Int)) rfl
        rw [show 0 + 4 * q + 1 = q * 4 + 1 by omega] at this
        exact this
      have hi : (0 : Int) ≤ (q : Int) ∧ (q : Int) < (R.length : Int) := ⟨by omega, by omega⟩
      have hw1 : IntKind.i64.wrap ((q : Int) + 1) = (q : Int) + 1 := IntWalk.i64_in _ (by omega)
      clear hrows
      generalize R[q].indent = x at *
      by_cases hx : ind < (x : Int)
      · have HX : Hid (q + 1 + (seg ind (R.drop (q + 1))).length = T) := by
          have h1 := HQ.out
          have h2 := HS.out
          rw [if_pos hx] at h2
          rw [Hid]; omega
        clear HS HQ
        go_wp2
        exact ⟨⟨q + 1, by omega, by go_num, HX.out⟩, by simp [intOf]; omega⟩
      · have HX : Hid (T = q) := by
          have h1 := HQ.out
          have h2 := HS.out
          rw [if_neg hx] at h2
          rw [Hid]; omega
        have hx2 : decide (ind < (x : Int)) = false := decide_eq_false hx
        clear HS HQ
        go_wp2
        go_ret
        exact ⟨by rw [HX.out]; rfl, rfl⟩
    · have HX : Hid (T = q) := by
        have h1 := HQ.out
        rw [List.drop_of_length_le (by omega)] at h1
        unfold seg at h1
        simp at h1
        rw [Hid]; omega
      clear HQ
      go_wp2
      go_ret
      exact ⟨by rw [HX.out]; rfl, rfl⟩
end y
end Go.Proofs.YtcljplkkgpjhlaaGreatDoorR
