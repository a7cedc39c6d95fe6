/-
  Eight operations of a region in whatever order, by what holds between them.
-/
import Derived.Test.YtphjhlnjfcfdcaaKOwn
import Derived.OrdersHeld
import Derived.Laws.World
namespace Go.Proofs.Ytphjhlnjfcfdcaa
open Go.ChangeShapes Go.WideShapes Go.ChangeAt Go.RowKit

theorem no_case {x : Bool} {C : Prop} (h : (!x) = true) (e : x = true) : C := by subst e; exact absurd h (by decide)
theorem all_done : ∀ d0 d1 d2 d3 d4 d5 d6 d7 : Bool, (!d0).toNat + (!d1).toNat + (!d2).toNat + (!d3).toNat + (!d4).toNat + (!d5).toNat + (!d6).toNat + (!d7).toNat ≤ 0 → (d0 && d1 && d2 && d3 && d4 && d5 && d6 && d7) = true := by decide +kernel
section
variable {P : Program} {Q : Exit → Act → World → Prop}
theorem wpOp_of {ops : Array Oper} {i : Nat} {o : Oper} {K : Act → World → Prop} {a : Act} {w : World} (hi : ops[i]? = some o) (hg : o.guard = none) (h : o.wp P a w K Q) : wpOp P ops Q i K a w := by
  unfold wpOp
  simp only [hi]
  rw [if_pos (by simp [Region.wanted, hg])]
  exact .inl h
theorem wpOp_run {ops : Array Oper} {i : Nat} {o : Oper} {K : Act → World → Prop} {b : Act} {w w' : World} {v : Value} (hi : ops[i]? = some o) (hg : o.guard = none) (hr : (execOp b.eval o).run P w = .ok (.value v) w') (h : K (b.put o.dst v) w') : wpOp P ops Q i K b w := by
  refine wpOp_of hi hg ?_
  unfold Oper.wp
  rw [hr]
  exact h
theorem wpOp_skip {ops : Array Oper} {i : Nat} {o : Oper} {K : Act → World → Prop} {b : Act} {w w' : World} (hi : ops[i]? = some o) (hg : o.guard = none) (hd : o.dst = none) (hr : (execOp b.eval o).run P w = .ok .skip w') (h : K b w') : wpOp P ops Q i K b w := by
  refine wpOp_of hi hg ?_
  unfold Oper.wp
  rw [hr, Oper.upon_skip, hd]
  exact h
theorem wpOp_call2 {ops : Array Oper} {i : Nat} {o : Oper} {K : Act → World → Prop} {b : Act} {w : World} {f : FuncId} {args : Array Value} (hi : ops[i]? = some o) (hg : o.guard = none) (hr : (execOp b.eval o).run P w = .ok (.enter f args) w)
    {R : Ending → World → Prop} (hc : Calls P f args w R) (h : ∀ e w', R e w' → ∃ v, e = .returned v ∧ K (b.put o.dst v) w') : wpOp P ops Q i K b w := by
  refine wpOp_of hi hg ?_
  unfold Oper.wp
  rw [hr, Oper.upon_enter]
  refine hc.mono ?_
  intro e w' he
  obtain ⟨v, rfl, hk⟩ := h e w' he
  exact hk
theorem ev_same {a : Act} {d : Nat} {v : Value} (h : d < a.tmps.size) : (a.put (some d) v).eval (.tmp d) = v := by
  simp [Act.put, Act.eval, h]
theorem ev_ne {a : Act} {d t : Nat} {v : Value} (h : d ≠ t) : (a.put (some d) v).eval (.tmp t) = a.eval (.tmp t) := by
  simp [Act.put, Act.eval, Array.getD_eq_getD_getElem?, h]
theorem put_size {a : Act} {d : Option Nat} {v : Value} : (a.put d v).tmps.size = a.tmps.size := by
  cases d <;> simp [Act.put]
theorem put_defers {a : Act} {d : Option Nat} {v : Value} : (a.put d v).defers = a.defers := by
  cases d <;> simp [Act.put]
theorem ev_get {a : Act} {t : Nat} {v : Value} (h : a.eval (.tmp t) = v) : a.tmps[t]?.getD undef = v := by
  rw [← h]; simp [Act.eval]
/-- Eight operations in whatever order, by what holds between them. -/
theorem any8 {ops : Array Oper} (I : Bool → Bool → Bool → Bool → Bool → Bool → Bool → Bool → Act → World → Prop)
    (hend : ∀ d0 d1 d2 d3 d4 d5 d6 d7 a w, I d0 d1 d2 d3 d4 d5 d6 d7 a w → Region.ready .any ops #[d0, d1, d2, d3, d4, d5, d6, d7] = [] → Q .normal a w)
    (hlt : ∀ d0 d1 d2 d3 d4 d5 d6 d7 k, k ∈ Region.ready .any ops #[d0, d1, d2, d3, d4, d5, d6, d7] → k < 8)
    (hall : Region.ready .any ops #[true, true, true, true, true, true, true, true] = [])
    (h0 : ∀ d0 d1 d2 d3 d4 d5 d6 d7 a w, I d0 d1 d2 d3 d4 d5 d6 d7 a w → 0 ∈ Region.ready .any ops #[d0, d1, d2, d3, d4, d5, d6, d7] → wpOp P ops Q 0 (I true d1 d2 d3 d4 d5 d6 d7) a w)
    (h1 : ∀ d0 d1 d2 d3 d4 d5 d6 d7 a w, I d0 d1 d2 d3 d4 d5 d6 d7 a w → 1 ∈ Region.ready .any ops #[d0, d1, d2, d3, d4, d5, d6, d7] → wpOp P ops Q 1 (I d0 true d2 d3 d4 d5 d6 d7) a w)
    (h2 : ∀ d0 d1 d2 d3 d4 d5 d6 d7 a w, I d0 d1 d2 d3 d4 d5 d6 d7 a w → 2 ∈ Region.ready .any ops #[d0, d1, d2, d3, d4, d5, d6, d7] → wpOp P ops Q 2 (I d0 d1 true d3 d4 d5 d6 d7) a w)
    (h3 : ∀ d0 d1 d2 d3 d4 d5 d6 d7 a w, I d0 d1 d2 d3 d4 d5 d6 d7 a w → 3 ∈ Region.ready .any ops #[d0, d1, d2, d3, d4, d5, d6, d7] → wpOp P ops Q 3 (I d0 d1 d2 true d4 d5 d6 d7) a w)
    (h4 : ∀ d0 d1 d2 d3 d4 d5 d6 d7 a w, I d0 d1 d2 d3 d4 d5 d6 d7 a w → 4 ∈ Region.ready .any ops #[d0, d1, d2, d3, d4, d5, d6, d7] → wpOp P ops Q 4 (I d0 d1 d2 d3 true d5 d6 d7) a w)
    (h5 : ∀ d0 d1 d2 d3 d4 d5 d6 d7 a w, I d0 d1 d2 d3 d4 d5 d6 d7 a w → 5 ∈ Region.ready .any ops #[d0, d1, d2, d3, d4, d5, d6, d7] → wpOp P ops Q 5 (I d0 d1 d2 d3 d4 true d6 d7) a w)
    (h6 : ∀ d0 d1 d2 d3 d4 d5 d6 d7 a w, I d0 d1 d2 d3 d4 d5 d6 d7 a w → 6 ∈ Region.ready .any ops #[d0, d1, d2, d3, d4, d5, d6, d7] → wpOp P ops Q 6 (I d0 d1 d2 d3 d4 d5 true d7) a w)
    (h7 : ∀ d0 d1 d2 d3 d4 d5 d6 d7 a w, I d0 d1 d2 d3 d4 d5 d6 d7 a w → 7 ∈ Region.ready .any ops #[d0, d1, d2, d3, d4, d5, d6, d7] → wpOp P ops Q 7 (I d0 d1 d2 d3 d4 d5 d6 true) a w)
    : ∀ (f : Nat) (d0 d1 d2 d3 d4 d5 d6 d7 : Bool) (a : Act) (w : World), (!d0).toNat + (!d1).toNat + (!d2).toNat + (!d3).toNat + (!d4).toNat + (!d5).toNat + (!d6).toNat + (!d7).toNat ≤ f → I d0 d1 d2 d3 d4 d5 d6 d7 a w → wpAny P .any ops Q f #[d0, d1, d2, d3, d4, d5, d6, d7] a w := by
  intro f
  induction f with
  | zero =>
    intro d0 d1 d2 d3 d4 d5 d6 d7 a w hf h
    have hd := all_done _ _ _ _ _ _ _ _ hf
    simp only [Bool.and_eq_true] at hd
    obtain ⟨⟨⟨⟨⟨⟨⟨rfl, rfl⟩, rfl⟩, rfl⟩, rfl⟩, rfl⟩, rfl⟩, rfl⟩ := hd
    exact ⟨hall, hend _ _ _ _ _ _ _ _ a w h hall⟩
  | succ f ih =>
    intro d0 d1 d2 d3 d4 d5 d6 d7 a w hf h
    refine ⟨fun e => hend _ _ _ _ _ _ _ _ a w h e, fun k hk => ?_⟩
    have hk8 := hlt _ _ _ _ _ _ _ _ k hk
    have hkd := (mem_ready.1 hk).1
    match k, hk8 with
    | 0, _ =>
      refine wpOp_mono (fun b u h2 => ?_) (h0 _ _ _ _ _ _ _ _ a w h hk)
      refine ih _ _ _ _ _ _ _ _ b u ?_ h2
      have hd : d0 = false := by simpa using hkd
      subst hd
      simp only [Bool.not_false, Bool.not_true, Bool.toNat_true, Bool.toNat_false] at hf ⊢
      omega
    | 1, _ =>
      refine wpOp_mono (fun b u h2 => ?_) (h1 _ _ _ _ _ _ _ _ a w h hk)
      refine ih _ _ _ _ _ _ _ _ b u ?_ h2
      have hd : d1 = false := by simpa using hkd
      subst hd
      simp only [Bool.not_false, Bool.not_true, Bool.toNat_true, Bool.toNat_false] at hf ⊢
      omega
    | 2, _ =>
      refine wpOp_mono (fun b u h2 => ?_) (h2 _ _ _ _ _ _ _ _ a w h hk)
      refine ih _ _ _ _ _ _ _ _ b u ?_ h2
      have hd : d2 = false := by simpa using hkd
      subst hd
      simp only [Bool.not_false, Bool.not_true, Bool.toNat_true, Bool.toNat_false] at hf ⊢
      omega
    | 3, _ =>
      refine wpOp_mono (fun b u h2 => ?_) (h3 _ _ _ _ _ _ _ _ a w h hk)
      refine ih _ _ _ _ _ _ _ _ b u ?_ h2
      have hd : d3 = false := by simpa using hkd
      subst hd
      simp only [Bool.not_false, Bool.not_true, Bool.toNat_true, Bool.toNat_false] at hf ⊢
      omega
    | 4, _ =>
      refine wpOp_mono (fun b u h2 => ?_) (h4 _ _ _ _ _ _ _ _ a w h hk)
      refine ih _ _ _ _ _ _ _ _ b u ?_ h2
      have hd : d4 = false := by simpa using hkd
      subst hd
      simp only [Bool.not_false, Bool.not_true, Bool.toNat_true, Bool.toNat_false] at hf ⊢
      omega
    | 5, _ =>
      refine wpOp_mono (fun b u h2 => ?_) (h5 _ _ _ _ _ _ _ _ a w h hk)
      refine ih _ _ _ _ _ _ _ _ b u ?_ h2
      have hd : d5 = false := by simpa using hkd
      subst hd
      simp only [Bool.not_false, Bool.not_true, Bool.toNat_true, Bool.toNat_false] at hf ⊢
      omega
    | 6, _ =>
      refine wpOp_mono (fun b u h2 => ?_) (h6 _ _ _ _ _ _ _ _ a w h hk)
      refine ih _ _ _ _ _ _ _ _ b u ?_ h2
      have hd : d6 = false := by simpa using hkd
      subst hd
      simp only [Bool.not_false, Bool.not_true, Bool.toNat_true, Bool.toNat_false] at hf ⊢
      omega
    | 7, _ =>
      refine wpOp_mono (fun b u h2 => ?_) (h7 _ _ _ _ _ _ _ _ a w h hk)
      refine ih _ _ _ _ _ _ _ _ b u ?_ h2
      have hd : d7 = false := by simpa using hkd
      subst hd
      simp only [Bool.not_false, Bool.not_true, Bool.toNat_true, Bool.toNat_false] at hf ⊢
      omega
end
end Go.Proofs.Ytphjhlnjfcfdcaa
