/-
  A region's operations in whatever order, where each yields a value that stays what it is, whatever the others do to memory that is new.
-/
import Derived.Test.YtphjhlnjfcfdcaaKAny
namespace Go.Proofs.Ytphjhlnjfcfdcaa
open Go.ChangeShapes Go.WideShapes Go.ChangeAt Go.RowKit

theorem act_ext {a b : Act} (h1 : a.tmps.size = b.tmps.size) (h2 : a.defers = b.defers) (h3 : ∀ t, a.eval (.tmp t) = b.eval (.tmp t)) : a = b := by
  obtain ⟨ta, da⟩ := a
  obtain ⟨tb, db⟩ := b
  dsimp only at h1 h2
  subst h2
  have : ta = tb := by
    apply Array.ext h1
    intro i hi hj
    have := h3 i
    simpa [Act.eval, hi, hj] using this
  subst this; rfl
theorem countP_less {p q : Nat → Bool} : ∀ (l : List Nat), (∀ x ∈ l, q x = true → p x = true) → ∀ x ∈ l, p x = true → q x = false → l.countP q < l.countP p
  | [], _, _, h, _, _ => nomatch h
  | y :: l, h, x, hx, hp, hq => by
    have hm : l.countP q ≤ l.countP p := List.countP_mono_left (fun z hz => h z (List.mem_cons_of_mem _ hz))
    rcases List.mem_cons.1 hx with rfl | hx
    · rw [List.countP_cons_of_pos hp, List.countP_cons_of_neg (by simp [hq])]; omega
    · have ih := countP_less l (fun z hz => h z (List.mem_cons_of_mem _ hz)) x hx hp hq
      rw [List.countP_cons, List.countP_cons]
      have h1 := h y List.mem_cons_self
      cases e : q y with
      | false => simp only [Bool.false_eq_true, if_false]; omega
      | true => rw [h1 e]; omega
section
variable {P : Program} {Q : Exit → Act → World → Prop}

def FClosed (ops : Array Oper) (done : Array Bool) : Prop := ∀ k o, ops[k]? = some o → done.getD k false = true → ∀ e ∈ o.after, Region.binds .any e = true → done.getD e.on false = true
/-- Operation j waits for operation k, or for one that does. -/
def waits (ops : Array Oper) : Nat → Nat → Nat → Bool
  | 0, _, _ => false
  | n + 1, j, k => ((ops[j]?).map fun o => o.after.any fun e => Region.binds .any e && (e.on == k || waits ops n e.on k)).getD false
theorem waits_spec {ops : Array Oper} {k : Nat} {done : Array Bool} (hc : FClosed ops done) : ∀ (n j : Nat) (oj : Oper), waits ops n j k = true → ops[j]? = some oj → (∀ e ∈ oj.after, Region.binds .any e = true → done.getD e.on false = true) → done.getD k false = true
  | 0, _, _, h, _, _ => by cases h
  | n + 1, j, oj, h, hj, hall => by
    rw [waits, hj] at h
    simp only [Option.map_some, Option.getD_some] at h
    obtain ⟨e, he, hb⟩ := Array.any_eq_true'.1 h
    rw [Bool.and_eq_true, Bool.or_eq_true, beq_iff_eq] at hb
    have h2 := hall e he hb.1
    rcases hb.2 with h3 | h3
    · rw [← h3]; exact h2
    · cases hp : ops[e.on]? with
      | none =>
        cases n with
        | zero => cases h3
        | succ n => rw [waits, hp] at h3; cases h3
      | some p => exact waits_spec hc n e.on p h3 hp (fun e2 he2 hb2 => hc e.on p hp h2 e2 he2 hb2)
def dstOf (ops : Array Oper) (i : Nat) : Option Nat := (ops[i]?).bind (·.dst)
/-- Slot t is as it was when operation i comes up. -/
def stillB (ops : Array Oper) (i t : Nat) : Bool := (List.range ops.size).all fun j => !(dstOf ops j == some t) || j == i || waits ops 12 j i
/-- Each operation has a slot of its own, no guard, and waits for earlier ones alone. -/
def flowB (ops : Array Oper) (n : Nat) : Bool := (List.range ops.size).all fun i => ((ops[i]?).map fun o => o.guard.isNone && (match o.dst with | some d => decide (d < n) | none => false) && o.after.all (fun e => !Region.binds .any e || decide (e.on < i))).getD false && (List.range ops.size).all fun j => i == j || !(dstOf ops i == dstOf ops j)
theorem flow_oper {ops : Array Oper} {n i : Nat} {o : Oper} (h : flowB ops n = true) (hi : ops[i]? = some o) :
    o.guard = none ∧ (∃ d, o.dst = some d ∧ d < n) ∧ (∀ e ∈ o.after, Region.binds .any e = true → e.on < i) ∧ ∀ j, j < ops.size → i ≠ j → dstOf ops i ≠ dstOf ops j := by
  have hlt : i < ops.size := (Array.getElem?_eq_some_iff.1 hi).1
  have h1 := List.all_eq_true.1 h i (List.mem_range.2 hlt)
  rw [hi] at h1
  simp only [Option.map_some, Option.getD_some, Bool.and_eq_true] at h1
  obtain ⟨⟨⟨h2, h3⟩, h4⟩, h5⟩ := h1
  refine ⟨by simpa using h2, ?_, fun e he hb => ?_, fun j hj hne hd => ?_⟩
  · cases hd : o.dst with
    | none => rw [hd] at h3; cases h3
    | some d => rw [hd] at h3; exact ⟨d, rfl, by simpa using h3⟩
  · have := (Array.all_eq_true_iff_forall_mem.1 h4) e he
    rw [hb] at this
    simpa using this
  · have := List.all_eq_true.1 h5 j (List.mem_range.2 hj)
    rw [Bool.or_eq_true, beq_iff_eq] at this
    rcases this with e | e
    · exact hne e
    · rw [hd] at e; simp at e
/-- What holds while they come up. -/
structure Flow (ops : Array Oper) (R : Nat → Value → World → Prop) (A0 : Act) (w0 : World) (done : Array Bool) (a : Act) (w : World) : Prop where
  size : a.tmps.size = A0.tmps.size
  defers : a.defers = A0.defers
  fr : Fresh w0 w
  closed : FClosed ops done
  dsz : done.size = ops.size
  same : ∀ t, (∀ j, done.getD j false = true → dstOf ops j ≠ some t) → a.eval (.tmp t) = A0.eval (.tmp t)
  res : ∀ j d, done.getD j false = true → dstOf ops j = some d → R j (a.eval (.tmp d)) w
/-- What operation i does, whenever it comes up. -/
def FStep (P : Program) (ops : Array Oper) (R : Nat → Value → World → Prop) (A0 : Act) (w0 : World) (i : Nat) (o : Oper) : Prop :=
  ∀ (a : Act) (w : World), Fresh w0 w → (∀ j d, waits ops 12 i j = true → dstOf ops j = some d → R j (a.eval (.tmp d)) w) → (∀ t, stillB ops i t = true → a.eval (.tmp t) = A0.eval (.tmp t)) →
    (∃ v w', (execOp a.eval o).run P w = .ok (.value v) w' ∧ Fresh w w' ∧ R i v w') ∨ (∃ f args, (execOp a.eval o).run P w = .ok (.enter f args) w ∧ Calls P f args w fun e w' => ∃ v, e = .returned v ∧ Fresh w w' ∧ R i v w')
theorem getD_lt {done : Array Bool} {k : Nat} (h : done.getD k false = true) : k < done.size := by
  rcases Nat.lt_or_ge k done.size with h2 | h2
  · exact h2
  · simp [Array.getElem?_eq_none h2] at h
theorem all_of_ready {ops : Array Oper} {n : Nat} {done : Array Bool} (hb : flowB ops n = true) (hs : done.size = ops.size) (hr : Region.ready .any ops done = []) : ∀ i, i < ops.size → done.getD i false = true := by
  intro i
  induction i using Nat.strongRecOn with
  | _ i ih =>
    intro hi
    cases hd : done.getD i false with
    | true => rfl
    | false =>
      exfalso
      have hin : i ∈ Region.ready .any ops done := by
        refine mem_ready.2 ⟨?_, ops[i], Array.getElem?_eq_getElem hi, fun e he hbe => ?_⟩
        · have h2 : i < done.size := by omega
          simp [h2] at hd ⊢; exact hd
        · have := (flow_oper hb (Array.getElem?_eq_getElem hi)).2.2.1 e he hbe
          exact ih e.on this (by omega)
      rw [hr] at hin
      cases hin
theorem flow_any {ops : Array Oper} {R : Nat → Value → World → Prop} {A0 : Act} {w0 : World} (hb : flowB ops A0.tmps.size = true) (hst : ∀ i v w w', R i v w → Fresh w w' → R i v w')
    (hs : ∀ i o, ops[i]? = some o → FStep P ops R A0 w0 i o)
    (hQ : ∀ a w, Flow ops R A0 w0 (Array.replicate ops.size true) a w → Q .normal a w) :
    ∀ (f : Nat) (done : Array Bool) (a : Act) (w : World), Flow ops R A0 w0 done a w → (List.range ops.size).countP (fun j => !done.getD j true) ≤ f → wpAny P .any ops Q f done a w := by
  have hend : ∀ (done : Array Bool) (a : Act) (w : World), Flow ops R A0 w0 done a w → (∀ i, i < ops.size → done.getD i false = true) → Q .normal a w := fun done a w h hall => by
    refine hQ a w ?_
    have e : done = Array.replicate ops.size true := by
      apply Array.ext (by rw [h.dsz]; simp)
      intro i h1 h2
      have := hall i (by rw [← h.dsz]; exact h1)
      simpa [h1] using this
    rw [← e]; exact h
  intro f
  induction f with
  | zero =>
    intro done a w h hf
    have hall : ∀ i, i < ops.size → done.getD i false = true := fun i hi => by
      have h0 : (List.range ops.size).countP (fun j => !done.getD j true) = 0 := by omega
      have := List.countP_eq_zero.1 h0 i (List.mem_range.2 hi)
      have h2 : i < done.size := by rw [h.dsz]; exact hi
      simp [h2] at this ⊢; exact this
    refine ⟨?_, hend done a w h hall⟩
    refine List.eq_nil_iff_forall_not_mem.2 (fun i hi => ?_)
    obtain ⟨h0, o, ho, _⟩ := mem_ready.1 hi
    have hlt : i < ops.size := (Array.getElem?_eq_some_iff.1 ho).1
    have h1 := hall i hlt
    have h2 : i < done.size := by rw [h.dsz]; exact hlt
    simp [h2] at h0 h1
    rw [h0] at h1; cases h1
  | succ f ih =>
    intro done a w h hf
    refine ⟨fun e => hend done a w h (all_of_ready hb h.dsz e), fun i hi => ?_⟩
    obtain ⟨h0, o, ho, hall⟩ := mem_ready.1 hi
    have hlt : i < ops.size := (Array.getElem?_eq_some_iff.1 ho).1
    have hld : i < done.size := by rw [h.dsz]; exact hlt
    obtain ⟨hg, ⟨d, hd, hdn⟩, hlow, hne⟩ := flow_oper hb ho
    have hdi : dstOf ops i = some d := by simp [dstOf, ho, hd]
    have h00 : done.getD i false = false := by simp [hld] at h0 ⊢; exact h0
    have hset : ∀ j, (done.setIfInBounds i true).getD j false = true → j = i ∨ done.getD j false = true := fun j hj => by
      by_cases e : i = j
      · exact .inl e.symm
      · rw [getD_set_ne false e] at hj; exact .inr hj
    have key : ∀ (v : Value) (w' : World), Fresh w w' → R i v w' → wpAny P .any ops Q f (done.setIfInBounds i true) (a.put o.dst v) w' := fun v w' hf' hv => by
      refine ih _ _ _ ⟨by rw [put_size]; exact h.size, by rw [put_defers]; exact h.defers, h.fr.trans hf', ?_, by rw [Array.size_setIfInBounds]; exact h.dsz, fun t ht => ?_, fun j e hj he => ?_⟩ ?_
      · intro k p hk hkd e he hbe
        rcases hset k hkd with rfl | h2
        · rw [ho] at hk; cases hk; exact getD_set_true (hall e he hbe)
        · exact getD_set_true (h.closed k p hk h2 e he hbe)
      · have hti : d ≠ t := fun e => ht i (by simp [hld]) (by rw [hdi, e])
        rw [hd, ev_ne hti]
        exact h.same t (fun j hj => ht j (getD_set_true hj))
      · by_cases e2 : i = j
        · subst e2
          rw [hdi] at he; cases he
          rw [hd, ev_same (by rw [h.size]; exact hdn)]
          exact hv
        · rw [getD_set_ne false e2] at hj
          have hjs : j < ops.size := by rw [← h.dsz]; exact getD_lt hj
          have hdne : d ≠ e := fun e3 => hne j hjs e2 (by rw [hdi, he, e3])
          rw [hd, ev_ne hdne]
          exact hst j _ w w' (h.res j e hj he) hf'
      · have := countP_less (p := fun j => !done.getD j true) (q := fun j => !(done.setIfInBounds i true).getD j true) (List.range ops.size) (fun x _ hx => by
          by_cases e : i = x
          · subst e; simp [hld] at hx
          · rw [getD_set_ne true e] at hx; exact hx) i (List.mem_range.2 hlt) (by simp [h0]) (by simp [hld])
        omega
    have hs' := hs i o ho a w h.fr (fun j e hj he => h.res j e (waits_spec h.closed 12 i o hj ho hall) he) (fun t ht => h.same t (fun j hj he => by
      have hjs : j < ops.size := by rw [← h.dsz]; exact getD_lt hj
      have := List.all_eq_true.1 ht j (List.mem_range.2 hjs)
      simp only [he, beq_self_eq_true, Bool.not_true, Bool.false_or, Bool.or_eq_true, beq_iff_eq] at this
      rcases this with e | e
      · subst e; rw [h00] at hj; cases hj
      · have hjo : ops[j]? = some ops[j] := Array.getElem?_eq_getElem hjs
        have := waits_spec h.closed 12 j ops[j] e hjo (h.closed j _ hjo hj)
        rw [h00] at this; cases this))
    rcases hs' with ⟨v, w', hr, hf', hv⟩ | ⟨fn, args, hr, hc⟩
    · exact wpOp_run ho hg hr (key v w' hf' hv)
    · exact wpOp_call2 ho hg hr hc (fun e w' ⟨v, he, hf', hv⟩ => ⟨v, he, key v w' hf' hv⟩)
def AllFrom (F : Nat → Oper → Prop) : Nat → List Oper → Prop
  | _, [] => True
  | k, o :: l => F k o ∧ AllFrom F (k + 1) l
theorem allFrom_spec {F : Nat → Oper → Prop} : ∀ (l : List Oper) (k : Nat), AllFrom F k l → ∀ i o, l[i]? = some o → F (k + i) o
  | [], _, _, i, o, h => by simp at h
  | x :: l, k, h, 0, o, e => by simp at e; subst e; exact h.1
  | x :: l, k, h, i + 1, o, e => by
    have := allFrom_spec l (k + 1) h.2 i o (by simpa using e)
    rwa [show k + 1 + i = k + (i + 1) from by omega] at this
/-- The values that are known ahead; what holds of the others. -/
def Rel (vs : List (Option Value)) (S : Nat → Value → World → Prop) (i : Nat) (v : Value) (w : World) : Prop :=
  match vs[i]? with
  | some (some x) => v = x
  | _ => S i v w
theorem Rel.move {vs : List (Option Value)} {S : Nat → Value → World → Prop} (hS : ∀ i v w w', S i v w → Fresh w w' → S i v w') (i : Nat) (v : Value) (w w' : World) (h : Rel vs S i v w) (f : Fresh w w') : Rel vs S i v w' := by
  unfold Rel at *
  split
  · rename_i e; rw [e] at h; exact h
  · rename_i e
    split at h
    · rename_i e2; exact absurd e2 (e _)
    · exact hS i v w w' h f
/-- The frame behind them. -/
def putAll (ops : Array Oper) (a : Act) (A0 : Act) : Nat → Act
  | 0 => A0
  | n + 1 => (putAll ops a A0 n).put (dstOf ops n) (match dstOf ops n with | some d => a.eval (.tmp d) | none => undef)
theorem putAll_size {ops : Array Oper} {a A0 : Act} : ∀ n, (putAll ops a A0 n).tmps.size = A0.tmps.size
  | 0 => rfl
  | n + 1 => by rw [putAll, put_size, putAll_size n]
theorem putAll_defers {ops : Array Oper} {a A0 : Act} : ∀ n, (putAll ops a A0 n).defers = A0.defers
  | 0 => rfl
  | n + 1 => by rw [putAll, put_defers, putAll_defers n]
theorem putAll_eval {ops : Array Oper} {a A0 : Act} (hb : flowB ops A0.tmps.size = true) (t : Nat) : ∀ n, n ≤ ops.size → ((∃ j, j < n ∧ dstOf ops j = some t) → (putAll ops a A0 n).eval (.tmp t) = a.eval (.tmp t)) ∧ ((∀ j, j < n → dstOf ops j ≠ some t) → (putAll ops a A0 n).eval (.tmp t) = A0.eval (.tmp t))
  | 0, _ => ⟨fun ⟨j, h, _⟩ => absurd h (Nat.not_lt_zero j), fun _ => rfl⟩
  | n + 1, hn => by
    obtain ⟨h1, h2⟩ := putAll_eval hb t n (by omega)
    obtain ⟨hg, ⟨d, hd, hdn⟩, _, _⟩ := flow_oper hb (Array.getElem?_eq_getElem (show n < ops.size by omega))
    have hdi : dstOf ops n = some d := by simp [dstOf, show n < ops.size by omega, hd]
    rw [putAll, hdi]
    dsimp only
    by_cases e : d = t
    · subst e
      rw [ev_same (by rw [putAll_size]; exact hdn)]
      exact ⟨fun _ => rfl, fun h => absurd hdi (h n (by omega))⟩
    · rw [ev_ne e]
      refine ⟨fun ⟨j, hj, he⟩ => h1 ⟨j, ?_, he⟩, fun h => h2 (fun j hj => h j (by omega))⟩
      rcases Nat.lt_or_ge j n with h3 | h3
      · exact h3
      · obtain rfl : j = n := by omega
        rw [hdi] at he; cases he; exact absurd rfl e
/-- THE REGION: its operations' values known ahead, those apart that 'S' speaks of. -/
theorem flow_region {id : Nat} {ops : Array Oper} {A0 : Act} {w : World} (vs : List (Option Value)) (S : Nat → Value → World → Prop) (hm : P.follows .mixedOrders = true)
    {n : Nat} (hn : A0.tmps.size = n) (hb : flowB ops n = true) (hS : ∀ i v w w', S i v w → Fresh w w' → S i v w')
    (hs : AllFrom (FStep P ops (Rel vs S) A0 w.drew) 0 ops.toList)
    (hQ : ∀ a w', a = putAll ops a A0 ops.size → Fresh w.drew w' → (∀ j d, dstOf ops j = some d → Rel vs S j (a.eval (.tmp d)) w') → Q .normal a w') : (Code.region id ops true).wp P Q A0 w := by
  subst hn
  refine wp_region_any hm (flow_any (R := Rel vs S) (w0 := w.drew) hb (Rel.move hS) (fun i o ho => ?_) (fun a w' h => ?_) _ _ _ _ ⟨rfl, rfl, .refl _, fun k o _ hk => ?_, by simp, fun t _ => rfl, fun j d hj => ?_⟩ ?_)
  · have := allFrom_spec ops.toList 0 hs i o (by simpa using ho)
    rwa [Nat.zero_add] at this
  · have hdone : ∀ j d, dstOf ops j = some d → (Array.replicate ops.size true).getD j false = true := fun j d hd => by
      have : j < ops.size := by
        rcases Nat.lt_or_ge j ops.size with h1 | h1
        · exact h1
        · simp [dstOf, Array.getElem?_eq_none h1] at hd
      simp [this]
    refine hQ a w' (act_ext (by rw [putAll_size]; exact h.size) (by rw [putAll_defers]; exact h.defers) (fun t => ?_)) h.fr (fun j d hd => h.res j d (hdone j d hd) hd)
    obtain ⟨h1, h2⟩ := putAll_eval (a := a) hb t ops.size (Nat.le_refl _)
    by_cases e : ∃ j, j < ops.size ∧ dstOf ops j = some t
    · exact (h1 e).symm
    · rw [h2 (fun j hj he => e ⟨j, hj, he⟩)]
      refine h.same t (fun j hj he => e ⟨j, ?_, he⟩)
      have := getD_lt hj
      simpa using this
  · exfalso
    have h1 := getD_lt hk
    simp at h1
    simp [h1] at hk
  · exfalso
    have h1 := getD_lt hj
    simp at h1
    simp [h1] at hj
  · have := List.countP_le_length (p := fun j => !(Array.replicate ops.size false).getD j true) (l := List.range ops.size)
    simpa using this
end
end Go.Proofs.Ytphjhlnjfcfdcaa
