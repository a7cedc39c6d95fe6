/-
  A region's operations in whatever order, where those that turn memory are bound to one order, and the others read what is known ahead.
  Plain facts on numbers as bytes, highest first, and on the row of cells that the program fills with them: no condition; nothing here speaks of the program.
  What each function of package pack that puts, and each of the document's answers for it, returns: for every number; texts as their theorems say.
-/
import Derived.Test.YtldncgelghcjeaaGreatDoorCat02
import Derived.WalkKit
import Derived.Deep.OwnRows
import Derived.Laws.IdiomStrings
import Derived.Test.YtldncgelghcjeaaGreatDoorRows
import Derived.Test.YtldncgelghcjeaaGreatDoorCat01
import Derived.ProofKit
import Derived.OpenShut
import Derived.ShutString
import Derived.WalkSpells
import Derived.WalkLawsBesides
import Derived.LoopTactic
import Derived.Lib.Hide
import Derived.Below
set_option linter.unusedSimpArgs false
set_option linter.unusedVariables false
namespace Go.Proofs.YtldncgelghcjeaaGreatDoor.K
open Go.ChangeShapes Go.WideShapes Go.ChangeAt Go.RowKit

section
variable {P : Program} {Q : Exit → Act → World → Prop}
/-- Each operation has no guard, waits for earlier ones alone, and has a slot of its own, if any. -/
def regB (ops : Array Oper) (n : Nat) : Bool := (List.range ops.size).all fun i => ((ops[i]?).map fun o => o.guard.isNone && (match o.dst with | some d => decide (d < n) | none => true) && o.after.all (fun e => !Region.binds .any e || decide (e.on < i))).getD false && (List.range ops.size).all fun j => i == j || dstOf ops i == none || !(dstOf ops i == dstOf ops j)
theorem reg_oper {ops : Array Oper} {n i : Nat} {o : Oper} (h : regB ops n = true) (hi : ops[i]? = some o) :
    o.guard = none ∧ (∀ d, o.dst = some d → d < n) ∧ (∀ e ∈ o.after, Region.binds .any e = true → e.on < i) ∧ ∀ j d, j < ops.size → i ≠ j → dstOf ops i = some d → dstOf ops j ≠ some d := by
  have hlt : i < ops.size := (Array.getElem?_eq_some_iff.1 hi).1
  have h1 := List.all_eq_true.1 h i (List.mem_range.2 hlt)
  rw [hi] at h1
  simp only [Option.map_some, Option.getD_some, Bool.and_eq_true] at h1
  obtain ⟨⟨⟨h2, h3⟩, h4⟩, h5⟩ := h1
  refine ⟨by simpa using h2, fun d hd => ?_, fun e he hb => ?_, fun j d hj hne hd he => ?_⟩
  · rw [hd] at h3; simpa using h3
  · have := (Array.all_eq_true_iff_forall_mem.1 h4) e he
    rw [hb] at this
    simpa using this
  · have := List.all_eq_true.1 h5 j (List.mem_range.2 hj)
    rw [hd, he] at this
    simp at this
    exact hne this
/-- Those that turn memory, each behind the one ahead; the others have a value that is known. -/
def chainB (ops : Array Oper) (cs : List Nat) (ms : List Bool) : Bool :=
  (List.range cs.length).all (fun p => (List.range p).all fun q => waits ops 12 (cs.getD p 0) (cs.getD q 0)) && (List.range cs.length).all (fun p => !ms.getD (cs.getD p 0) false && decide (cs.getD p 0 < ops.size)) && (List.range ops.size).all fun i => cs.contains i || ms.getD i false
/-- What operation i does, whenever it comes up. -/
def CStep (P : Program) (ops : Array Oper) (cs : List Nat) (vs : List (Option Value)) (Inv : List Value → World → Prop) (A0 : Act) (i : Nat) (o : Oper) : Prop :=
  ∀ (h : List Value) (a : Act) (w : World), Inv h w → (∀ (p j : Nat), cs[p]? = some j → waits ops 12 i j = true → p < h.length) → (∀ (p j : Nat), cs[p]? = some j → waits ops 12 j i = true → h.length ≤ p) → (∀ (p : Nat), cs[p]? = some i → h.length = p) →
    (∀ (p j d : Nat) (v : Value), cs[p]? = some j → h[p]? = some v → dstOf ops j = some d → a.eval (.tmp d) = v) → (∀ (j d : Nat) (x : Value), waits ops 12 i j = true → vs[j]? = some (some x) → dstOf ops j = some d → a.eval (.tmp d) = x) → (∀ (t : Nat), stillB ops i t = true → a.eval (.tmp t) = A0.eval (.tmp t)) →
    match vs[i]? with
    | some (some x) => (execOp a.eval o).run P w = .ok (.value x) w
    | _ => (∃ v w', (execOp a.eval o).run P w = .ok (.value v) w' ∧ Inv (h ++ [v]) w') ∨ (∃ w', o.dst = none ∧ (execOp a.eval o).run P w = .ok .skip w' ∧ Inv (h ++ [undef]) w') ∨
        (∃ f args, (execOp a.eval o).run P w = .ok (.enter f args) w ∧ Calls P f args w fun e w' => ∃ v, e = .returned v ∧ Inv (h ++ [v]) w')
/-- What holds while they come up. -/
structure Chn (ops : Array Oper) (cs : List Nat) (vs : List (Option Value)) (Inv : List Value → World → Prop) (A0 : Act) (done : Array Bool) (h : List Value) (a : Act) (w : World) : Prop where
  size : a.tmps.size = A0.tmps.size
  defers : a.defers = A0.defers
  inv : Inv h w
  closed : FClosed ops done
  dsz : done.size = ops.size
  wr : ∀ (p j : Nat), cs[p]? = some j → (done.getD j false = true ↔ p < h.length)
  hle : h.length ≤ cs.length
  vw : ∀ (p j d : Nat) (v : Value), cs[p]? = some j → h[p]? = some v → dstOf ops j = some d → a.eval (.tmp d) = v
  vr : ∀ (j d : Nat) (x : Value), vs[j]? = some (some x) → done.getD j false = true → dstOf ops j = some d → a.eval (.tmp d) = x
  same : ∀ (t : Nat), (∀ j, done.getD j false = true → dstOf ops j ≠ some t) → a.eval (.tmp t) = A0.eval (.tmp t)
theorem all_of_ready' {ops : Array Oper} {n : Nat} {done : Array Bool} (hb : regB ops n = true) (hs : done.size = ops.size) (hr : Region.ready .any ops done = []) : ∀ i, i < ops.size → done.getD i false = true := by
  intro i
  induction i using Nat.strongRecOn with
  | _ i ih =>
    intro hi
    cases hd : done.getD i false with
    | true => rfl
    | false =>
      exfalso
      have hin : i ∈ Region.ready .any ops done := by
        refine mem_ready.2 ⟨?_, ops[i], Array.getElem?_eq_getElem hi, fun e he hbe => ?_⟩
        · have h2 : i < done.size := by omega
          simp [h2] at hd ⊢; exact hd
        · have := (reg_oper hb (Array.getElem?_eq_getElem hi)).2.2.1 e he hbe
          exact ih e.on this (by omega)
      rw [hr] at hin
      cases hin
theorem chain_any {ops : Array Oper} {cs : List Nat} {vs : List (Option Value)} {Inv : List Value → World → Prop} {A0 : Act} (hb : regB ops A0.tmps.size = true) (hcb : chainB ops cs (vs.map Option.isSome) = true)
    (hs : ∀ i o, ops[i]? = some o → CStep P ops cs vs Inv A0 i o)
    (hQ : ∀ h a w, Chn ops cs vs Inv A0 (Array.replicate ops.size true) h a w → Q .normal a w) :
    ∀ (f : Nat) (done : Array Bool) (h : List Value) (a : Act) (w : World), Chn ops cs vs Inv A0 done h a w → (List.range ops.size).countP (fun j => !done.getD j true) ≤ f → wpAny P .any ops Q f done a w := by
  have hend : ∀ (done : Array Bool) (h : List Value) (a : Act) (w : World), Chn ops cs vs Inv A0 done h a w → (∀ i, i < ops.size → done.getD i false = true) → Q .normal a w := fun done h a w hh hall => by
    refine hQ h a w ?_
    have e : done = Array.replicate ops.size true := by
      apply Array.ext (by rw [hh.dsz]; simp)
      intro i h1 h2
      have := hall i (by rw [← hh.dsz]; exact h1)
      simpa [h1] using this
    rw [← e]; exact hh
  intro f
  induction f with
  | zero =>
    intro done h a w hh hf
    have hall : ∀ i, i < ops.size → done.getD i false = true := fun i hi => by
      have h0 : (List.range ops.size).countP (fun j => !done.getD j true) = 0 := by omega
      have := List.countP_eq_zero.1 h0 i (List.mem_range.2 hi)
      have h2 : i < done.size := by rw [hh.dsz]; exact hi
      simp [h2] at this ⊢; exact this
    refine ⟨?_, hend done h a w hh hall⟩
    refine List.eq_nil_iff_forall_not_mem.2 (fun i hi => ?_)
    obtain ⟨h0, o, ho, _⟩ := mem_ready.1 hi
    have hlt : i < ops.size := (Array.getElem?_eq_some_iff.1 ho).1
    have h1 := hall i hlt
    have h2 : i < done.size := by rw [hh.dsz]; exact hlt
    simp [h2] at h0 h1
    rw [h0] at h1; cases h1
  | succ f ih =>
    intro done h a w hh hf
    refine ⟨fun e => hend done h a w hh (all_of_ready' hb hh.dsz e), fun i hi => ?_⟩
    obtain ⟨h0, o, ho, hall⟩ := mem_ready.1 hi
    have hlt : i < ops.size := (Array.getElem?_eq_some_iff.1 ho).1
    have hld : i < done.size := by rw [hh.dsz]; exact hlt
    obtain ⟨hg, hdn, hlow, hne⟩ := reg_oper hb ho
    have h00 : done.getD i false = false := by simp [hld] at h0 ⊢; exact h0
    have hset : ∀ j, (done.setIfInBounds i true).getD j false = true → j = i ∨ done.getD j false = true := fun j hj => by
      by_cases e : i = j
      · exact .inl e.symm
      · rw [getD_set_ne false e] at hj; exact .inr hj
    have hcnt : (List.range ops.size).countP (fun j => !(done.setIfInBounds i true).getD j true) ≤ f := by
      have := countP_less (p := fun j => !done.getD j true) (q := fun j => !(done.setIfInBounds i true).getD j true) (List.range ops.size) (fun x _ hx => by
          by_cases e : i = x
          · subst e; simp [hld] at hx
          · rw [getD_set_ne true e] at hx; exact hx) i (List.mem_range.2 hlt) (by simp [h0]) (by simp [hld])
      omega
    have hclosed : FClosed ops (done.setIfInBounds i true) := by
      intro k p hk hkd e he hbe
      rcases hset k hkd with rfl | h2
      · rw [ho] at hk; cases hk; exact getD_set_true (hall e he hbe)
      · exact getD_set_true (hh.closed k p hk h2 e he hbe)
    have hi_set : (done.setIfInBounds i true).getD i false = true := by simp [hld]
    have hcb1 := hcb
    unfold chainB at hcb1
    simp only [Bool.and_eq_true] at hcb1
    obtain ⟨⟨hch, hcv⟩, hcr⟩ := hcb1
    -- the frame behind a put
    have hput : ∀ (v : Value) (t : Nat), (∀ d, o.dst = some d → d ≠ t) → (a.put o.dst v).eval (.tmp t) = a.eval (.tmp t) := fun v t ht => by
      cases hd : o.dst with
      | none => rfl
      | some d => exact ev_ne (ht d hd)
    have hsameP : ∀ (v : Value) t, (∀ j, (done.setIfInBounds i true).getD j false = true → dstOf ops j ≠ some t) → (a.put o.dst v).eval (.tmp t) = A0.eval (.tmp t) := fun v t ht => by
      rw [hput v t (fun d hd e => ht i hi_set (by simp [dstOf, ho, hd, e]))]
      exact hh.same t (fun j hj => ht j (getD_set_true hj))
    have hoff : ∀ (v : Value) (j d : Nat), j ≠ i → j < ops.size → dstOf ops j = some d → (a.put o.dst v).eval (.tmp d) = a.eval (.tmp d) := fun v j d hj hjs he => hput v d (fun e hd e2 => by
      subst e2
      exact hne j e hjs (Ne.symm hj) (by simp [dstOf, ho, hd]) he)
    have hinb : ∀ (p j : Nat), cs[p]? = some j → ∀ d, dstOf ops j = some d → j < ops.size := fun p j _ d he => by
      rcases Nat.lt_or_ge j ops.size with h1 | h1
      · exact h1
      · simp [dstOf, Array.getElem?_eq_none h1] at he
    have hs' := hs i o ho h a w hh.inv
      (fun p j hp hw => (hh.wr p j hp).1 (waits_spec hh.closed 12 i o hw ho hall))
      (fun p j hp hw => by
        rcases Nat.lt_or_ge p h.length with hlp | hlp
        · exfalso
          have hjd := (hh.wr p j hp).2 hlp
          have hjs : j < ops.size := by rw [← hh.dsz]; exact getD_lt hjd
          have hjo : ops[j]? = some ops[j] := Array.getElem?_eq_getElem hjs
          have := waits_spec hh.closed 12 j ops[j] hw hjo (hh.closed j _ hjo hjd)
          rw [h00] at this; cases this
        · exact hlp)
      (fun p hp => by
        have h1 : ¬ p < h.length := fun hlp => by
          have := (hh.wr p i hp).2 hlp
          rw [h00] at this; cases this
        rcases Nat.lt_or_ge h.length p with h2 | h2
        · exfalso
          have hpl : p < cs.length := (List.getElem?_eq_some_iff.1 hp).1
          have hq : cs[h.length]? = some cs[h.length] := List.getElem?_eq_getElem (by omega)
          have hw := List.all_eq_true.1 (List.all_eq_true.1 hch p (List.mem_range.2 hpl)) h.length (List.mem_range.2 h2)
          rw [List.getD_eq_getElem?_getD, List.getD_eq_getElem?_getD, hp, hq] at hw
          simp only [Option.getD_some] at hw
          have := (hh.wr _ _ hq).1 (waits_spec hh.closed 12 i o hw ho hall)
          omega
        · omega)
      hh.vw
      (fun j d x hw hx he => hh.vr j d x hx (waits_spec hh.closed 12 i o hw ho hall) he)
      (fun t ht => hh.same t (fun j hj he => by
        have hjs : j < ops.size := by rw [← hh.dsz]; exact getD_lt hj
        have := List.all_eq_true.1 ht j (List.mem_range.2 hjs)
        simp only [he, beq_self_eq_true, Bool.not_true, Bool.false_or, Bool.or_eq_true, beq_iff_eq] at this
        rcases this with e | e
        · subst e; rw [h00] at hj; cases hj
        · have hjo : ops[j]? = some ops[j] := Array.getElem?_eq_getElem hjs
          have := waits_spec hh.closed 12 j ops[j] e hjo (hh.closed j _ hjo hj)
          rw [h00] at this; cases this))
    -- a reader
    have keyR : ∀ x, vs[i]? = some (some x) → wpAny P .any ops Q f (done.setIfInBounds i true) (a.put o.dst x) w := fun x hx => by
      have hni : ∀ (p : Nat), cs[p]? ≠ some i := fun p hp => by
        have hpl : p < cs.length := (List.getElem?_eq_some_iff.1 hp).1
        have := List.all_eq_true.1 hcv p (List.mem_range.2 hpl)
        have e0 : cs.getD p 0 = i := by rw [List.getD_eq_getElem?_getD, hp]; rfl
        rw [e0, List.getD_eq_getElem?_getD, List.getElem?_map, hx] at this
        simp at this
      refine ih _ h _ _ ⟨by rw [put_size]; exact hh.size, by rw [put_defers]; exact hh.defers, hh.inv, hclosed, by rw [Array.size_setIfInBounds]; exact hh.dsz, fun p j hp => ?_, hh.hle, fun p j d v hp hv he => ?_, fun j d y hy hj he => ?_, hsameP x⟩ hcnt
      · have hji : i ≠ j := fun e => hni p (by rw [e]; exact hp)
        rw [getD_set_ne false hji]
        exact hh.wr p j hp
      · have hji : j ≠ i := fun e => hni p (by rw [← e]; exact hp)
        rw [hoff x j d hji (hinb p j hp d he) he]
        exact hh.vw p j d v hp hv he
      · by_cases e : j = i
        · subst e
          rw [hx] at hy
          cases hy
          have hd : o.dst = some d := by simpa [dstOf, ho] using he
          rw [hd, ev_same (by rw [hh.size]; exact hdn d hd)]
        · rw [getD_set_ne false (Ne.symm e)] at hj
          rw [hoff x j d e (by rw [← hh.dsz]; exact getD_lt hj) he]
          exact hh.vr j d y hy hj he
    -- a writer
    have keyW : ∀ (v : Value) (w' : World), (∀ x, vs[i]? ≠ some (some x)) → Inv (h ++ [v]) w' → wpAny P .any ops Q f (done.setIfInBounds i true) (a.put o.dst v) w' := fun v w' hx hv => by
      have hin : ∃ p : Nat, cs[p]? = some i := by
        have := List.all_eq_true.1 hcr i (List.mem_range.2 hlt)
        rw [Bool.or_eq_true] at this
        rcases this with e | e
        · have := List.contains_iff_mem.1 e
          obtain ⟨p, hp, he⟩ := List.getElem_of_mem this
          exact ⟨p, by rw [← he]; exact List.getElem?_eq_getElem hp⟩
        · exfalso
          cases hv2 : vs[i]? with
          | none => rw [List.getD_eq_getElem?_getD, List.getElem?_map, hv2] at e; simp at e
          | some y =>
            cases y with
            | none => rw [List.getD_eq_getElem?_getD, List.getElem?_map, hv2] at e; simp at e
            | some x => exact hx x hv2
      obtain ⟨p0, hp0⟩ := hin
      have hw0 := (hh.wr p0 i hp0)
      have hp1 : ¬ p0 < h.length := fun hlp => by have := hw0.2 hlp; rw [h00] at this; cases this
      have hpe : h.length = p0 := by
        rcases Nat.lt_or_ge h.length p0 with h2 | h2
        · exfalso
          have hpl : p0 < cs.length := (List.getElem?_eq_some_iff.1 hp0).1
          have hq : cs[h.length]? = some cs[h.length] := List.getElem?_eq_getElem (by omega)
          have hw := List.all_eq_true.1 (List.all_eq_true.1 hch p0 (List.mem_range.2 hpl)) h.length (List.mem_range.2 h2)
          rw [List.getD_eq_getElem?_getD, List.getD_eq_getElem?_getD, hp0, hq] at hw
          simp only [Option.getD_some] at hw
          have := (hh.wr _ _ hq).1 (waits_spec hh.closed 12 i o hw ho hall)
          omega
        · omega
      have hle2 : p0 < cs.length := (List.getElem?_eq_some_iff.1 hp0).1
      refine ih _ (h ++ [v]) _ _ ⟨by rw [put_size]; exact hh.size, by rw [put_defers]; exact hh.defers, hv, hclosed, by rw [Array.size_setIfInBounds]; exact hh.dsz, fun p j hp => ?_, by rw [List.length_append]; simp; omega, fun p j d u hp hu he => ?_, fun j d y hy hj he => ?_, hsameP v⟩ hcnt
      · rw [List.length_append, List.length_singleton]
        by_cases e : i = j
        · subst e
          refine ⟨fun _ => ?_, fun _ => hi_set⟩
          rcases Nat.lt_or_ge h.length p with h3 | h3
          · exfalso
            have hpl : p < cs.length := (List.getElem?_eq_some_iff.1 hp).1
            have hw := List.all_eq_true.1 (List.all_eq_true.1 hch p (List.mem_range.2 hpl)) p0 (List.mem_range.2 (by omega))
            rw [List.getD_eq_getElem?_getD, List.getD_eq_getElem?_getD, hp, hp0] at hw
            simp only [Option.getD_some] at hw
            have := waits_spec hh.closed 12 i o hw ho hall
            rw [h00] at this; cases this
          · omega
        · rw [getD_set_ne false e, hh.wr p j hp]
          refine ⟨fun h3 => by omega, fun h3 => ?_⟩
          rcases Nat.lt_or_ge p h.length with h4 | h4
          · exact h4
          · exfalso
            have : p = p0 := by omega
            subst this
            rw [hp0] at hp
            cases hp
            exact e rfl
      · by_cases e : j = i
        · subst e
          have hd : o.dst = some d := by simpa [dstOf, ho] using he
          have hpp : p = p0 := by
            have hplu : p < (h ++ [v]).length := (List.getElem?_eq_some_iff.1 hu).1
            rw [List.length_append, List.length_singleton] at hplu
            rcases Nat.lt_or_ge p h.length with h4 | h4
            · have := (hh.wr p j hp).2 h4
              rw [h00] at this; cases this
            · omega
          subst hpp
          rw [List.getElem?_append_right (by omega), hpe, Nat.sub_self] at hu
          simp at hu
          subst hu
          rw [hd, ev_same (by rw [hh.size]; exact hdn d hd)]
        · rw [hoff v j d e (hinb p j hp d he) he]
          refine hh.vw p j d u hp ?_ he
          rcases Nat.lt_or_ge p h.length with h4 | h4
          · rw [List.getElem?_append_left h4] at hu
            exact hu
          · exfalso
            have hplu : p < (h ++ [v]).length := (List.getElem?_eq_some_iff.1 hu).1
            rw [List.length_append, List.length_singleton] at hplu
            have : p = p0 := by omega
            subst this
            rw [hp0] at hp
            cases hp
            exact e rfl
      · have hji : j ≠ i := fun e => by subst e; exact hx y hy
        rw [getD_set_ne false (Ne.symm hji)] at hj
        rw [hoff v j d hji (by rw [← hh.dsz]; exact getD_lt hj) he]
        exact hh.vr j d y hy hj he
    unfold CStep at hs
    cases hv : vs[i]? with
    | none =>
      rw [hv] at hs'
      have hx : ∀ x, vs[i]? ≠ some (some x) := fun x e => by rw [hv] at e; cases e
      rcases hs' with ⟨v, w', hr, hI⟩ | ⟨w', hd, hr, hI⟩ | ⟨fn, args, hr, hc⟩
      · exact wpOp_run ho hg hr (keyW v w' hx hI)
      · refine wpOp_skip ho hg hd hr ?_
        have := keyW undef w' hx hI
        rw [hd] at this
        exact this
      · exact wpOp_call2 ho hg hr hc (fun e w' ⟨v, he, hI⟩ => ⟨v, he, keyW v w' hx hI⟩)
    | some y =>
      cases y with
      | none =>
        rw [hv] at hs'
        have hx : ∀ x, vs[i]? ≠ some (some x) := fun x e => by rw [hv] at e; cases e
        rcases hs' with ⟨v, w', hr, hI⟩ | ⟨w', hd, hr, hI⟩ | ⟨fn, args, hr, hc⟩
        · exact wpOp_run ho hg hr (keyW v w' hx hI)
        · refine wpOp_skip ho hg hd hr ?_
          have := keyW undef w' hx hI
          rw [hd] at this
          exact this
        · exact wpOp_call2 ho hg hr hc (fun e w' ⟨v, he, hI⟩ => ⟨v, he, keyW v w' hx hI⟩)
      | some x =>
        rw [hv] at hs'
        exact wpOp_run ho hg hs' (keyR x hv)
/-- A frame, slot by slot. -/
theorem act_lit {a : Act} {n : Nat} {d : List Deferred} (h : a.tmps.size = n) (hd : a.defers = d) : a = ⟨((List.range n).map fun t => a.eval (.tmp t)).toArray, d⟩ := by
  refine act_ext (by simp [h]) hd (fun t => ?_)
  by_cases ht : t < n
  · simp [Act.eval, ht, h]
  · simp [Act.eval, ht, h]
theorem lst0 {h : List Value} (e : h.length = 0) : h = [] := List.eq_nil_of_length_eq_zero e
theorem lst1 {h : List Value} (e : h.length = 1) : ∃ y0, h = [y0] := by
  match h, e with
  | [y0], _ => exact ⟨y0, rfl⟩
theorem lst2 {h : List Value} (e : h.length = 2) : ∃ y0 y1, h = [y0, y1] := by
  match h, e with
  | [y0, y1], _ => exact ⟨y0, y1, rfl⟩
theorem lst3 {h : List Value} (e : h.length = 3) : ∃ y0 y1 y2, h = [y0, y1, y2] := by
  match h, e with
  | [y0, y1, y2], _ => exact ⟨y0, y1, y2, rfl⟩
theorem lst4 {h : List Value} (e : h.length = 4) : ∃ y0 y1 y2 y3, h = [y0, y1, y2, y3] := by
  match h, e with
  | [y0, y1, y2, y3], _ => exact ⟨y0, y1, y2, y3, rfl⟩
theorem lst5 {h : List Value} (e : h.length = 5) : ∃ y0 y1 y2 y3 y4, h = [y0, y1, y2, y3, y4] := by
  match h, e with
  | [y0, y1, y2, y3, y4], _ => exact ⟨y0, y1, y2, y3, y4, rfl⟩
theorem lst6 {h : List Value} (e : h.length = 6) : ∃ y0 y1 y2 y3 y4 y5, h = [y0, y1, y2, y3, y4, y5] := by
  match h, e with
  | [y0, y1, y2, y3, y4, y5], _ => exact ⟨y0, y1, y2, y3, y4, y5, rfl⟩
theorem Chn.keep {ops : Array Oper} {cs : List Nat} {vs : List (Option Value)} {Inv : List Value → World → Prop} {A0 a : Act} {done : Array Bool} {h : List Value} {w : World} (hh : Chn ops cs vs Inv A0 done h a w) (t : Nat) (hb : ((List.range ops.size).all fun j => !(dstOf ops j == some t)) = true) : a.eval (.tmp t) = A0.eval (.tmp t) :=
  hh.same t (fun j hj he => by
    have hjs : j < ops.size := by rw [← hh.dsz]; exact getD_lt hj
    have := List.all_eq_true.1 hb j (List.mem_range.2 hjs)
    rw [he] at this
    simp at this)
/-- THE REGION: those that turn memory in their one order, by what holds between them ('Inv', of their values so far); the others' values known ahead. -/
theorem chain_region {id : Nat} {ops : Array Oper} {A0 : Act} {w : World} (cs : List Nat) (vs : List (Option Value)) (Inv : List Value → World → Prop) (hm : P.follows .mixedOrders = true)
    {n : Nat} (hn : A0.tmps.size = n) (hb : regB ops n = true) {ms : List Bool} (hms : vs.map Option.isSome = ms) (hc : chainB ops cs ms = true) (h0 : Inv [] w.drew)
    (hs : AllFrom (CStep P ops cs vs Inv A0) 0 ops.toList)
    (hQ : ∀ h a w', Chn ops cs vs Inv A0 (Array.replicate ops.size true) h a w' → h.length = cs.length → Q .normal a w') : (Code.region id ops true).wp P Q A0 w := by
  subst hn hms
  refine wp_region_any hm (chain_any hb hc (fun i o ho => ?_) (fun h a w' hh => hQ h a w' hh ?_) _ _ [] _ _ ⟨rfl, rfl, h0, fun k o _ hk => ?_, by simp, fun p j hp => ?_, Nat.zero_le _, fun p j d v _ hv => ?_, fun j d x _ hj => ?_, fun t _ => rfl⟩ ?_)
  · have := allFrom_spec ops.toList 0 hs i o (by simpa using ho)
    rwa [Nat.zero_add] at this
  · rcases Nat.lt_or_ge h.length cs.length with h1 | h1
    · exfalso
      have hq : cs[h.length]? = some cs[h.length] := List.getElem?_eq_getElem h1
      have hw := hh.wr _ _ hq
      have hlt : cs[h.length] < ops.size := by
        rcases Nat.lt_or_ge cs[h.length] ops.size with h2 | h2
        · exact h2
        · exfalso
          have h3 := hc
          unfold chainB at h3
          simp only [Bool.and_eq_true] at h3
          have := List.all_eq_true.1 h3.1.2 h.length (List.mem_range.2 h1)
          have e0 : cs.getD h.length 0 = cs[h.length] := by rw [List.getD_eq_getElem?_getD, hq]; rfl
          rw [e0] at this
          simp at this
          omega
      have := hw.1 (by simp [hlt])
      omega
    · have := hh.hle; omega
  · exfalso
    have h1 := getD_lt hk
    simp at h1
    simp [h1] at hk
  · constructor
    · intro hk
      exfalso
      have h1 := getD_lt hk
      simp at h1
      simp [h1] at hk
    · intro hk; simp at hk
  · simp at hv
  · exfalso
    have h1 := getD_lt hj
    simp at h1
    simp [h1] at hj
  · have := List.countP_le_length (p := fun j => !(Array.replicate ops.size false).getD j true) (l := List.range ops.size)
    simpa using this
end
end Go.Proofs.YtldncgelghcjeaaGreatDoor.K
namespace Go.Proofs.YtldncgelghcjeaaGreatDoor.K
/-- n is 1, 2, 4 or 8. -/
def okN (n : Int) : Bool := n == 1 || n == 2 || n == 4 || n == 8
theorem okN_cases {n : Int} (h : okN n = true) : n = 1 ∨ n = 2 ∨ n = 4 ∨ n = 8 := by
  simp [okN] at h; omega
theorem okN_not {n : Int} (h : okN n = false) : n ≠ 1 ∧ n ≠ 2 ∧ n ≠ 4 ∧ n ≠ 8 := by
  simp [okN] at h; omega

/-- The byte of v that stands k places above the lowest. -/
def dig (v k : Nat) : UInt8 := UInt8.ofNat (v / 256 ^ k)
/-- The k lowest bytes of v, the highest first. -/
def be : Nat → Nat → List UInt8
  | 0, _ => []
  | k + 1, v => dig v k :: be k v
def beS (n v : Nat) : ByteArray := ⟨(be n v).toArray⟩
theorem be_length (n v : Nat) : (be n v).length = n := by
  induction n with
  | zero => rfl
  | succ n ih => simp [be, ih]
theorem beS_size (n v : Nat) : (beS n v).size = n := by
  show (be n v).toArray.size = n
  simp [be_length]
theorem beS_zero (v : Nat) : beS 0 v = ⟨#[]⟩ := rfl
theorem beS_succ (k v : Nat) : ⟨#[dig v k]⟩ ++ beS k v = beS (k + 1) v := by
  unfold beS
  rw [ByteArray.mk_append_mk]
  simp [be]
theorem pow256 (k : Nat) : 256 ^ k = 2 ^ (8 * k) := by
  rw [Nat.pow_mul]
theorem dig_toNat (v k : Nat) : (dig v k).toNat = v / 256 ^ k % 256 := by
  simp [dig]
theorem dig_int (v : Int) (k : Nat) (h : 0 ≤ v) : ((dig v.toNat k).toNat : Int) = v / 2 ^ (8 * k) % 256 := by
  obtain ⟨n, rfl⟩ := Int.eq_ofNat_of_zero_le h
  rw [dig_toNat, pow256, Int.toNat_natCast, Int.natCast_emod, Int.natCast_ediv, Int.natCast_pow]
  rfl

/-- v without its k lowest bytes. -/
def qu (v : Int) (k : Nat) : Int := ((v.toNat / 256 ^ k : Nat) : Int)
theorem qu_zero (v : Int) (h : 0 ≤ v) : qu v 0 = v := by simp [qu]; omega
theorem qu_succ (v : Int) (k : Nat) : qu v (k + 1) = qu v k / 256 := by
  unfold qu
  rw [Nat.pow_succ, ← Nat.div_div_eq_div_mul, Int.natCast_ediv]
  rfl
theorem qu_bd (v : Int) (k : Nat) (h0 : 0 ≤ v) (h1 : v < 18446744073709551616) : 0 ≤ qu v k ∧ qu v k < 18446744073709551616 := by
  induction k with
  | zero => rw [qu_zero v h0]; omega
  | succ k ih => rw [qu_succ]; omega
theorem qu_dig (v : Int) (k : Nat) : ((dig v.toNat k).toNat : Int) = qu v k % 256 := by
  rw [dig_toNat, Int.natCast_emod]
  rfl

/-- The row of n cells behind k rounds: the k lowest bytes stand at its end. -/
def cellsAt (n k v : Nat) : Array Value := (List.replicate (n - k) (Value.int .u8 0) ++ (be k v).map fun c => Value.int .u8 (c.toNat : Int)).toArray
theorem cellsAt_made (n v : Nat) : madeCells #[Value.int .u8 0] n = cellsAt n 0 v := by
  apply Array.ext_getElem?
  intro i
  by_cases h : i < n
  · simp [madeCells, cellsAt, be, h, Nat.mod_one]
  · simp [madeCells, cellsAt, be, h]
theorem cellsAt_get (n k v : Nat) (h : k < n) : (cellsAt n k v)[n - 1 - k]? = some (.int .u8 0) := by
  unfold cellsAt
  rw [List.getElem?_toArray, List.getElem?_append_left (by simp; omega), List.getElem?_replicate, if_pos (by omega)]
theorem cellsAt_set (n k : Nat) (v : Int) (h0 : 0 ≤ v) (h : k < n) : (cellsAt n k v.toNat).setIfInBounds (n - 1 - k) (.int .u8 (v / 2 ^ (8 * k) % 256)) = cellsAt n (k + 1) v.toNat := by
  rw [← dig_int v k h0]
  unfold cellsAt
  obtain ⟨m, rfl⟩ : ∃ m, n = m + 1 + k := ⟨n - 1 - k, by omega⟩
  have e1 : m + 1 + k - k = m + 1 := by omega
  have e2 : m + 1 + k - (k + 1) = m := by omega
  have e3 : m + 1 + k - 1 - k = m := by omega
  rw [e1, e2, e3, List.replicate_succ', List.setIfInBounds_toArray, List.append_assoc, List.set_append_right _ _ (by simp)]
  simp [be]
theorem cellsAt_all (n v j : Nat) (hj : j < (be n v).length) : (cellsAt n n v)[j]? = some (.int .u8 ((be n v)[j].toNat : Int)) := by
  unfold cellsAt
  simp [hj]
end Go.Proofs.YtldncgelghcjeaaGreatDoor.K
namespace Go.Proofs.YtldncgelghcjeaaGreatDoor.K
open Go.ChangeShapes Go.WideShapes Go.ChangeAt Go.RowKit

theorem may_any (n : Int) (w : World) : Calls Tryz.prog 98 #[.int .i64 n] w fun e w' => e = .returned (.bool (okN n)) ∧ w = w' := by
  by_cases h : okN n = true
  · rcases okN_cases h with rfl | rfl | rfl | rfl
    all_goals
      clear h
      go_enter Tryz.func98, Tryz.ntmps98
      go_wp2
      go_ret
      exact ⟨rfl, rfl⟩
  · have h' : okN n = false := by simpa using h
    obtain ⟨h1, h2, h4, h8⟩ := okN_not h'
    have e1 : (n == 1) = false := by simpa using h1
    have e2 : (n == 2) = false := by simpa using h2
    have e4 : (n == 4) = false := by simpa using h4
    have e8 : (n == 8) = false := by simpa using h8
    clear h h' h1 h2 h4 h8
    go_enter Tryz.func98, Tryz.ntmps98
    go_wp2
    go_ret
    exact ⟨by simp [okN, e1, e2, e4, e8], rfl⟩
theorem may_yes (n : Int) (w : World) (h : okN n = true) : Calls Tryz.prog 98 #[.int .i64 n] w fun e w' => e = .returned (.bool true) ∧ w = w' := by
  rw [← h]; exact may_any n w
theorem may_no (n : Int) (w : World) (h : okN n = false) : Calls Tryz.prog 98 #[.int .i64 n] w fun e w' => e = .returned (.bool false) ∧ w = w' := by
  rw [← h]; exact may_any n w

/-- 'string(b)' of a row that holds the bytes of beS. -/
theorem conv_row (w : World) (n v : Nat) : (convert 98 9 (.slice (some ⟨w.heap.size, 0, none⟩) n n)).run Tryz.prog (w.alloc (.cells (cellsAt n n v) 5)) = .ok (.string (beS n v)) (w.alloc (.cells (cellsAt n n v) 5)) := by
  have h := run_convert_bytes_back (P := Tryz.prog) (w.alloc (.cells (cellsAt n n v) 5)) 98 9 5 ⟨w.heap.size, 0, none⟩ n (be n v) Tryz.underlying98 Tryz.underlying5 Tryz.underlying9 (fun j hj => by
    have e : (⟨w.heap.size, 0, none⟩ : Addr).add j = ⟨w.heap.size, j, none⟩ := by simp [Addr.add]; exact fun h => h.symm
    rw [e, World.cell?_alloc_at _ _ _ _ rfl]
    exact cellsAt_all n v j hj)
  rw [be_length] at h
  exact h
theorem conv_one (w : World) (c : UInt8) (x : Int) (hx : (c.toNat : Int) = x) : (convert 98 9 (.slice (some ⟨w.heap.size, 0, none⟩) 1 1)).run Tryz.prog (w.alloc (.cells #[.int .u8 x] 5)) = .ok (.string ⟨#[c]⟩) (w.alloc (.cells #[.int .u8 x] 5)) := by
  subst hx
  exact run_convert_bytes_back (P := Tryz.prog) (w.alloc (.cells #[.int .u8 (c.toNat : Int)] 5)) 98 9 5 ⟨w.heap.size, 0, none⟩ 1 [c] Tryz.underlying98 Tryz.underlying5 Tryz.underlying9 (fun j hj => by
    have e : (⟨w.heap.size, 0, none⟩ : Addr).add j = ⟨w.heap.size, j, none⟩ := by simp [Addr.add]; exact fun h => h.symm
    rw [e, World.cell?_alloc_at _ _ _ _ rfl]
    simp at hj
    subst hj
    rfl)

/-! ### pack.Put and the document's Put -/
theorem put_no (n v : Int) (w : World) (h : okN n = false) : Calls Tryz.prog 90 #[.int .i64 n, .int .u64 v] w fun e w' => e = .returned (.string ⟨#[]⟩) ∧ Fresh w w' := by
  have H := Lib.hid h; clear h
  go_enter Tryz.func90, Tryz.ntmps90
  go_wp2_with (go_at_call 98; refine (may_no _ _ H.out).mono ?_; rintro e w' ⟨rfl, rfl⟩)
  go_ret
  exact ⟨rfl, Fresh.refl _⟩

set_option maxRecDepth 100000 in
set_option maxHeartbeats 400000 in
theorem put_nat (n : Nat) (v : Int) (w : World) (h : okN n = true) (h0 : 0 ≤ v) (_h1 : v < 18446744073709551616) (_hn : 1 ≤ n) (hn8 : n ≤ 8) :
    Calls Tryz.prog 90 #[.int .i64 n, .int .u64 v] w fun e w' => e = .returned (.string (beS n v.toNat)) ∧ Fresh w w' := by
  have H := Lib.hid h; clear h
  have hmk := fun w => run_make_row' (P := Tryz.prog) 98 5 (.int .u8 0) 1 Tryz.underlying98 info5 rfl .i64 .i64 n (by omega) (by omega) w
  go_enter Tryz.func90, Tryz.ntmps90
  go_wp2_with (go_at_call 98; refine (may_yes _ _ H.out).mono ?_; rintro e w' ⟨rfl, rfl⟩)
  go_loopw [13] (fun i wr => ∃ k : Nat, k ≤ n ∧ i = .int .i64 k ∧ wr = w.alloc (.cells (cellsAt n k v.toNat) 5)) (fun i _ => n - (intOf i).toNat)
  case atStart => exact ⟨0, Nat.zero_le _, rfl, by rw [cellsAt_made n v.toNat]⟩
  case round =>
    obtain ⟨k, hk, rfl, rfl⟩ := hrel
    by_cases hlt : k < n
    · have hc := cellsAt_get n k v.toNat hlt
      go_wp2
      exact ⟨⟨k + 1, hlt, by go_num, by rw [cellsAt_set n k v h0 hlt]⟩, by simp [intOf]; omega⟩
    · obtain rfl : k = n := by omega
      have hcv := conv_row w k v.toNat
      go_wp2
      go_ret
      exact ⟨rfl, (Fresh.refl _).alloc _⟩
theorem put_yes (n v : Int) (w : World) (h : okN n = true) (h0 : 0 ≤ v) (h1 : v < 18446744073709551616) :
    Calls Tryz.prog 90 #[.int .i64 n, .int .u64 v] w fun e w' => e = .returned (.string (beS n.toNat v.toNat)) ∧ Fresh w w' := by
  obtain ⟨m, rfl⟩ : ∃ m : Nat, n = m := ⟨n.toNat, by rcases okN_cases h with rfl | rfl | rfl | rfl <;> rfl⟩
  have := okN_cases h
  exact put_nat m v w h h0 h1 (by omega) (by omega)

theorem rput_no (n v : Int) (w : World) (h : okN n = false) : Calls Tryz.prog 50 #[.int .i64 n, .int .u64 v] w fun e w' => e = .returned (.string ⟨#[]⟩) ∧ Fresh w w' := by
  obtain ⟨h1, h2, h4, h8⟩ := okN_not h
  have e1 : (n != 1) = true := by simpa using h1
  have e2 : (n != 2) = true := by simpa using h2
  have e4 : (n != 4) = true := by simpa using h4
  have e8 : (n != 8) = true := by simpa using h8
  clear h h1 h2 h4 h8
  go_enter Tryz.func50, Tryz.ntmps50
  go_wp2
  go_ret
  exact ⟨rfl, Fresh.refl _⟩
set_option maxRecDepth 100000 in
set_option maxHeartbeats 400000 in
theorem rput_1 (v : Int) (w : World) (h0 : 0 ≤ v) (h1 : v < 18446744073709551616) :
    Calls Tryz.prog 50 #[.int .i64 1, .int .u64 v] w fun e w' => e = .returned (.string (beS 1 v.toNat)) ∧ Fresh w w' := by
  go_enter Tryz.func50, Tryz.ntmps50
  go_wp2
  go_loopw [1, 5, 6] (fun x s i wr => ∃ k : Nat, k ≤ 1 ∧ i = .int .i64 k ∧ x = .int .u64 (qu v k) ∧ s = .string (beS k v.toNat) ∧ Fresh w wr) (fun _ _ i _ => 1 - (intOf i).toNat)
  case atStart => exact ⟨0, Nat.zero_le _, rfl, by rw [qu_zero v h0], rfl, Fresh.refl _⟩
  case round =>
    obtain ⟨k, hk, rfl, rfl, rfl, hg⟩ := hrel
    have hq := qu_bd v k h0 h1
    have hadd : ∀ W : World, (Op.stringOp .add ⟨#[dig v.toNat k]⟩ (beS k v.toNat)).run Tryz.prog W = .ok (.string (beS (k + 1) v.toNat)) W := fun W => by
      rw [run_string_add_sum W _ _ (by rw [beS_size]; show 1 + k ≤ _; omega), beS_succ]
    have hcv := conv_one wr (dig v.toNat k) (qu v k % 256) (qu_dig v k)
    by_cases hlt : k < 1
    · go_wp2
      exact ⟨⟨k + 1, by omega, by go_num, by rw [qu_succ], rfl, hg.alloc _⟩, by simp [intOf]; omega⟩
    · obtain rfl : k = 1 := by omega
      go_wp2
      go_ret
      exact ⟨rfl, hg⟩
set_option maxRecDepth 100000 in
set_option maxHeartbeats 400000 in
theorem rput_2 (v : Int) (w : World) (h0 : 0 ≤ v) (h1 : v < 18446744073709551616) :
    Calls Tryz.prog 50 #[.int .i64 2, .int .u64 v] w fun e w' => e = .returned (.string (beS 2 v.toNat)) ∧ Fresh w w' := by
  go_enter Tryz.func50, Tryz.ntmps50
  go_wp2
  go_loopw [1, 5, 6] (fun x s i wr => ∃ k : Nat, k ≤ 2 ∧ i = .int .i64 k ∧ x = .int .u64 (qu v k) ∧ s = .string (beS k v.toNat) ∧ Fresh w wr) (fun _ _ i _ => 2 - (intOf i).toNat)
  case atStart => exact ⟨0, Nat.zero_le _, rfl, by rw [qu_zero v h0], rfl, Fresh.refl _⟩
  case round =>
    obtain ⟨k, hk, rfl, rfl, rfl, hg⟩ := hrel
    have hq := qu_bd v k h0 h1
    have hadd : ∀ W : World, (Op.stringOp .add ⟨#[dig v.toNat k]⟩ (beS k v.toNat)).run Tryz.prog W = .ok (.string (beS (k + 1) v.toNat)) W := fun W => by
      rw [run_string_add_sum W _ _ (by rw [beS_size]; show 1 + k ≤ _; omega), beS_succ]
    have hcv := conv_one wr (dig v.toNat k) (qu v k % 256) (qu_dig v k)
    by_cases hlt : k < 2
    · go_wp2
      exact ⟨⟨k + 1, by omega, by go_num, by rw [qu_succ], rfl, hg.alloc _⟩, by simp [intOf]; omega⟩
    · obtain rfl : k = 2 := by omega
      go_wp2
      go_ret
      exact ⟨rfl, hg⟩
set_option maxRecDepth 100000 in
set_option maxHeartbeats 400000 in
theorem rput_4 (v : Int) (w : World) (h0 : 0 ≤ v) (h1 : v < 18446744073709551616) :
    Calls Tryz.prog 50 #[.int .i64 4, .int .u64 v] w fun e w' => e = .returned (.string (beS 4 v.toNat)) ∧ Fresh w w' := by
  go_enter Tryz.func50, Tryz.ntmps50
  go_wp2
  go_loopw [1, 5, 6] (fun x s i wr => ∃ k : Nat, k ≤ 4 ∧ i = .int .i64 k ∧ x = .int .u64 (qu v k) ∧ s = .string (beS k v.toNat) ∧ Fresh w wr) (fun _ _ i _ => 4 - (intOf i).toNat)
  case atStart => exact ⟨0, Nat.zero_le _, rfl, by rw [qu_zero v h0], rfl, Fresh.refl _⟩
  case round =>
    obtain ⟨k, hk, rfl, rfl, rfl, hg⟩ := hrel
    have hq := qu_bd v k h0 h1
    have hadd : ∀ W : World, (Op.stringOp .add ⟨#[dig v.toNat k]⟩ (beS k v.toNat)).run Tryz.prog W = .ok (.string (beS (k + 1) v.toNat)) W := fun W => by
      rw [run_string_add_sum W _ _ (by rw [beS_size]; show 1 + k ≤ _; omega), beS_succ]
    have hcv := conv_one wr (dig v.toNat k) (qu v k % 256) (qu_dig v k)
    by_cases hlt : k < 4
    · go_wp2
      exact ⟨⟨k + 1, by omega, by go_num, by rw [qu_succ], rfl, hg.alloc _⟩, by simp [intOf]; omega⟩
    · obtain rfl : k = 4 := by omega
      go_wp2
      go_ret
      exact ⟨rfl, hg⟩
set_option maxRecDepth 100000 in
set_option maxHeartbeats 400000 in
theorem rput_8 (v : Int) (w : World) (h0 : 0 ≤ v) (h1 : v < 18446744073709551616) :
    Calls Tryz.prog 50 #[.int .i64 8, .int .u64 v] w fun e w' => e = .returned (.string (beS 8 v.toNat)) ∧ Fresh w w' := by
  go_enter Tryz.func50, Tryz.ntmps50
  go_wp2
  go_loopw [1, 5, 6] (fun x s i wr => ∃ k : Nat, k ≤ 8 ∧ i = .int .i64 k ∧ x = .int .u64 (qu v k) ∧ s = .string (beS k v.toNat) ∧ Fresh w wr) (fun _ _ i _ => 8 - (intOf i).toNat)
  case atStart => exact ⟨0, Nat.zero_le _, rfl, by rw [qu_zero v h0], rfl, Fresh.refl _⟩
  case round =>
    obtain ⟨k, hk, rfl, rfl, rfl, hg⟩ := hrel
    have hq := qu_bd v k h0 h1
    have hadd : ∀ W : World, (Op.stringOp .add ⟨#[dig v.toNat k]⟩ (beS k v.toNat)).run Tryz.prog W = .ok (.string (beS (k + 1) v.toNat)) W := fun W => by
      rw [run_string_add_sum W _ _ (by rw [beS_size]; show 1 + k ≤ _; omega), beS_succ]
    have hcv := conv_one wr (dig v.toNat k) (qu v k % 256) (qu_dig v k)
    by_cases hlt : k < 8
    · go_wp2
      exact ⟨⟨k + 1, by omega, by go_num, by rw [qu_succ], rfl, hg.alloc _⟩, by simp [intOf]; omega⟩
    · obtain rfl : k = 8 := by omega
      go_wp2
      go_ret
      exact ⟨rfl, hg⟩
theorem rput_yes (n v : Int) (w : World) (h : okN n = true) (h0 : 0 ≤ v) (h1 : v < 18446744073709551616) :
    Calls Tryz.prog 50 #[.int .i64 n, .int .u64 v] w fun e w' => e = .returned (.string (beS n.toNat v.toNat)) ∧ Fresh w w' := by
  rcases okN_cases h with rfl | rfl | rfl | rfl
  · exact rput_1 v w h0 h1
  · exact rput_2 v w h0 h1
  · exact rput_4 v w h0 h1
  · exact rput_8 v w h0 h1
theorem wrap_u64 (v : Int) : 0 ≤ IntKind.u64.wrap v ∧ IntKind.u64.wrap v < 18446744073709551616 := by
  simp [IntKind.wrap, IntKind.signed, IntKind.bits]; omega
theorem wrap_back (v : Int) (h0 : 0 ≤ v) (h1 : v < 18446744073709551616) : IntKind.u64.wrap (wrap64 v) = v := by
  simp [IntKind.wrap, IntKind.signed, IntKind.bits, wrap64]; omega
def flagS (b : Bool) : ByteArray := beS 1 b.toNat
theorem beS_flag : flagS false = ⟨#[0]⟩ ∧ flagS true = ⟨#[1]⟩ := ⟨by decide +kernel, by decide +kernel⟩

/-! ### pack.Int, Flag, Text, and the document's -/
theorem text_long (s : ByteArray) (w : World) (hs : s.size ≤ maxLen) (h : 4096 < s.size) : Calls Tryz.prog 91 #[.string s] w fun e w' => e = .returned (.tuple #[.string ⟨#[]⟩, .int .i64 2]) ∧ Fresh w w' := by
  unfold maxLen at hs
  go_enter Tryz.func91, Tryz.ntmps91
  go_wp2
  go_ret2
  exact ⟨rfl, Fresh.refl _⟩
theorem text_ok (s : ByteArray) (w : World) (h : s.size ≤ 4096) : Calls Tryz.prog 91 #[.string s] w fun e w' => e = .returned (.tuple #[.string (beS 2 s.size ++ s), .int .i64 0]) ∧ Fresh w w' := by
  have hadd : ∀ W : World, (Op.stringOp .add (beS 2 s.size) s).run Tryz.prog W = .ok (.string (beS 2 s.size ++ s)) W := fun W => by
    rw [run_string_add_sum W _ _ (by rw [beS_size]; omega)]
  go_enter Tryz.func91, Tryz.ntmps91
  go_wp2_with fail
  refine (put_yes _ _ _ (by decide) (by omega) (by omega)).mono ?_
  rintro e w' ⟨rfl, hg⟩
  go_wp2
  go_ret2
  exact ⟨rfl, hg⟩
theorem rtext_ok (s : ByteArray) (w : World) (h : s.size ≤ 4096) : Calls Tryz.prog 51 #[.string s] w fun e w' => e = .returned (.string (beS 2 s.size ++ s)) ∧ Fresh w w' := by
  have hadd : ∀ W : World, (Op.stringOp .add (beS 2 s.size) s).run Tryz.prog W = .ok (.string (beS 2 s.size ++ s)) W := fun W => by
    rw [run_string_add_sum W _ _ (by rw [beS_size]; omega)]
  go_enter Tryz.func51, Tryz.ntmps51
  go_wp2_with fail
  refine (rput_yes _ _ _ (by decide) (by omega) (by omega)).mono ?_
  rintro e w' ⟨rfl, hg⟩
  go_wp2
  go_ret
  exact ⟨rfl, hg⟩

/-! ### the document's example -/
theorem awake_put : beS 2 258 = ⟨#[1, 2]⟩ := by decide +kernel
theorem awake_text : beS 2 1 ++ ⟨#[97]⟩ = ⟨#[0, 1, 97]⟩ := by decide +kernel
theorem text_a (w : World) : Calls Tryz.prog 91 #[.string ⟨#[97]⟩] w fun e w' => e = .returned (.tuple #[.string ⟨#[0, 1, 97]⟩, .int .i64 0]) ∧ Fresh w w' := by
  have h := text_ok ⟨#[97]⟩ w (by decide)
  rw [show (ByteArray.mk #[97]).size = 1 from rfl, awake_text] at h
  exact h
theorem put_258 (w : World) : Calls Tryz.prog 90 #[.int .i64 2, .int .u64 258] w fun e w' => e = .returned (.string ⟨#[1, 2]⟩) ∧ Fresh w w' := by
  have h := put_yes 2 258 w (by decide) (by omega) (by omega)
  rw [show (2 : Int).toNat = 2 from rfl, show (258 : Int).toNat = 258 from rfl, awake_put] at h
  exact h
theorem awake_true (w : World) : Calls Tryz.prog 87 #[] w fun e w' => e = .returned (.bool true) ∧ Fresh w w' := by
  go_enter Tryz.func87, Tryz.ntmps87
  go_wp2_with fail
  refine (text_a _).mono ?_
  rintro e w1 ⟨rfl, hg1⟩
  go_wp2_with fail
  refine (put_258 _).mono ?_
  rintro e w2 ⟨rfl, hg2⟩
  go_wp2
  go_ret
  exact ⟨rfl, hg1.trans hg2⟩
end Go.Proofs.YtldncgelghcjeaaGreatDoor.K
