/-
  PROVED: for every state of version 3, whose readings hold together with the library's two tables at most 1048576 values and letters, the given statement UpgradeDown returns true, where the library's two UTF-8 tables read as the program's text lays them (the card ties that); no other condition.
  As KFlow: who waits for whom by bit masks, so that great regions are reckoned fast; the frame behind told slot by slot.
  Few pods, and small ones, all together: what bosunlaw19.Small says (printed by gensmall3.py.txt out of small3.frame.txt).
  bosunlaw20.UpgradeDown, walked.
-/
import Derived.Test.YtldncgelghcjeaaGreatDoorCat03
import Derived.Test.YtldncgelghcjeaaGreatDoorCat26
import Derived.Test.YtldncgelghcjeaaGreatDoorUpd07
import Derived.Test.YtldncgelghcjeaaGreatDoorUpd08
import Derived.Test.YtldncgelghcjeaaGreatDoorCat01
import Derived.Test.YtldncgelghcjeaaGreatDoorUpd01
set_option linter.unusedSimpArgs false
set_option linter.unusedVariables false
namespace Go.Proofs.YtldncgelghcjeaaGreatDoor.K
open Go.ChangeShapes Go.WideShapes Go.ChangeAt Go.RowKit

def maskE (acc : Array Nat) (m : Nat) (e : Edge) : Nat := if Region.binds .any e then m ||| (1 <<< e.on) ||| acc.getD e.on 0 else m
def maskOf (acc : Array Nat) (o : Oper) : Nat := o.after.toList.foldl (maskE acc) 0
def masksN (ops : Array Oper) : Nat → Array Nat
  | 0 => #[]
  | n + 1 => (masksN ops n).push (match ops[n]? with | some o => maskOf (masksN ops n) o | none => 0)
def waitsM (ops : Array Oper) (i k : Nat) : Bool := ((masksN ops ops.size).getD i 0).testBit k
theorem masksN_size (ops : Array Oper) : ∀ n, (masksN ops n).size = n
  | 0 => rfl
  | n + 1 => by rw [masksN, Array.size_push, masksN_size ops n]
theorem masksN_get (ops : Array Oper) {i : Nat} : ∀ n, i < n → (masksN ops n).getD i 0 = (match ops[i]? with | some o => maskOf (masksN ops i) o | none => 0)
  | 0, h => absurd h (Nat.not_lt_zero i)
  | n + 1, h => by
    rw [masksN]
    by_cases e : i = n
    · subst e
      rw [Array.getD_eq_getD_getElem?, Array.getElem?_push, if_pos (masksN_size ops i).symm]; rfl
    · have ih := masksN_get ops n (show i < n by omega)
      rw [← ih]
      have hs := masksN_size ops n
      simp [Array.getD_eq_getD_getElem?, Array.getElem?_push, hs, e]
theorem maskE_bit {acc : Array Nat} {k : Nat} : ∀ (l : List Edge) (m : Nat), (l.foldl (maskE acc) m).testBit k = true → m.testBit k = true ∨ ∃ e ∈ l, Region.binds .any e = true ∧ (e.on = k ∨ (acc.getD e.on 0).testBit k = true)
  | [], m, h => .inl h
  | e :: l, m, h => by
    rcases maskE_bit l _ h with h1 | ⟨e2, he, h2⟩
    · unfold maskE at h1
      split at h1
      · rename_i hb
        rw [Nat.testBit_or, Nat.testBit_or, Bool.or_eq_true, Bool.or_eq_true] at h1
        rcases h1 with (h1 | h1) | h1
        · exact .inl h1
        · refine .inr ⟨e, List.mem_cons_self, hb, .inl ?_⟩
          rw [Nat.one_shiftLeft, Nat.testBit_two_pow] at h1
          simpa using h1
        · exact .inr ⟨e, List.mem_cons_self, hb, .inr h1⟩
      · exact .inl h1
    · exact .inr ⟨e2, List.mem_cons_of_mem _ he, h2⟩
theorem waitsM_spec {ops : Array Oper} {k : Nat} {done : Array Bool} (hc : FClosed ops done) : ∀ (j : Nat) (oj : Oper), waitsM ops j k = true → ops[j]? = some oj → (∀ e ∈ oj.after, Region.binds .any e = true → done.getD e.on false = true) → done.getD k false = true := by
  intro j
  induction j using Nat.strongRecOn with
  | _ j ih =>
    intro oj h hj hall
    have hlt : j < ops.size := (Array.getElem?_eq_some_iff.1 hj).1
    unfold waitsM at h
    rw [masksN_get ops ops.size hlt, hj] at h
    rcases maskE_bit _ _ h with h1 | ⟨e, he, hb, h2⟩
    · simp at h1
    · have hd := hall e (by simpa using he) hb
      rcases h2 with h2 | h2
      · rw [← h2]; exact hd
      · have hej : e.on < j := by
          rcases Nat.lt_or_ge e.on j with h3 | h3
          · exact h3
          · have hs := masksN_size ops j
            rw [Array.getD_eq_getD_getElem?, Array.getElem?_eq_none (by omega)] at h2
            simp at h2
        have hes : e.on < ops.size := by omega
        have ho : ops[e.on]? = some ops[e.on] := Array.getElem?_eq_getElem hes
        refine ih e.on hej ops[e.on] ?_ ho (hc e.on _ ho hd)
        unfold waitsM
        rw [masksN_get ops ops.size hes]
        rw [masksN_get ops j hej] at h2
        exact h2
section
variable {P : Program} {Q : Exit → Act → World → Prop}
/-- Slot t is as it was when operation i comes up. -/
def stillM (ops : Array Oper) (i t : Nat) : Bool := (List.range ops.size).all fun j => !(dstOf ops j == some t) || j == i || waitsM ops j i
/-- What operation i does, whenever it comes up. -/
def FStepM (P : Program) (ops : Array Oper) (R : Nat → Value → World → Prop) (A0 : Act) (w0 : World) (i : Nat) (o : Oper) : Prop :=
  ∀ (a : Act) (w : World), Fresh w0 w → (∀ j d, waitsM ops i j = true → dstOf ops j = some d → R j (a.eval (.tmp d)) w) → (∀ t, stillM ops i t = true → a.eval (.tmp t) = A0.eval (.tmp t)) →
    (∃ v w', (execOp a.eval o).run P w = .ok (.value v) w' ∧ Fresh w w' ∧ R i v w') ∨ (∃ f args, (execOp a.eval o).run P w = .ok (.enter f args) w ∧ Calls P f args w fun e w' => ∃ v, e = .returned v ∧ Fresh w w' ∧ R i v w')
theorem flowM_any {ops : Array Oper} {R : Nat → Value → World → Prop} {A0 : Act} {w0 : World} (hb : flowB ops A0.tmps.size = true) (hst : ∀ i v w w', R i v w → Fresh w w' → R i v w')
    (hs : ∀ i o, ops[i]? = some o → FStepM P ops R A0 w0 i o)
    (hQ : ∀ a w, Flow ops R A0 w0 (Array.replicate ops.size true) a w → Q .normal a w) :
    ∀ (f : Nat) (done : Array Bool) (a : Act) (w : World), Flow ops R A0 w0 done a w → (List.range ops.size).countP (fun j => !done.getD j true) ≤ f → wpAny P .any ops Q f done a w := by
  have hend : ∀ (done : Array Bool) (a : Act) (w : World), Flow ops R A0 w0 done a w → (∀ i, i < ops.size → done.getD i false = true) → Q .normal a w := fun done a w h hall => by
    refine hQ a w ?_
    have e : done = Array.replicate ops.size true := by
      apply Array.ext (by rw [h.dsz]; simp)
      intro i h1 h2
      have := hall i (by rw [← h.dsz]; exact h1)
      simpa [h1] using this
    rw [← e]; exact h
  intro f
  induction f with
  | zero =>
    intro done a w h hf
    have hall : ∀ i, i < ops.size → done.getD i false = true := fun i hi => by
      have h0 : (List.range ops.size).countP (fun j => !done.getD j true) = 0 := by omega
      have := List.countP_eq_zero.1 h0 i (List.mem_range.2 hi)
      have h2 : i < done.size := by rw [h.dsz]; exact hi
      simp [h2] at this ⊢; exact this
    refine ⟨?_, hend done a w h hall⟩
    refine List.eq_nil_iff_forall_not_mem.2 (fun i hi => ?_)
    obtain ⟨h0, o, ho, _⟩ := mem_ready.1 hi
    have hlt : i < ops.size := (Array.getElem?_eq_some_iff.1 ho).1
    have h1 := hall i hlt
    have h2 : i < done.size := by rw [h.dsz]; exact hlt
    simp [h2] at h0 h1
    rw [h0] at h1; cases h1
  | succ f ih =>
    intro done a w h hf
    refine ⟨fun e => hend done a w h (all_of_ready hb h.dsz e), fun i hi => ?_⟩
    obtain ⟨h0, o, ho, hall⟩ := mem_ready.1 hi
    have hlt : i < ops.size := (Array.getElem?_eq_some_iff.1 ho).1
    have hld : i < done.size := by rw [h.dsz]; exact hlt
    obtain ⟨hg, ⟨d, hd, hdn⟩, hlow, hne⟩ := flow_oper hb ho
    have hdi : dstOf ops i = some d := by simp [dstOf, ho, hd]
    have h00 : done.getD i false = false := by simp [hld] at h0 ⊢; exact h0
    have hset : ∀ j, (done.setIfInBounds i true).getD j false = true → j = i ∨ done.getD j false = true := fun j hj => by
      by_cases e : i = j
      · exact .inl e.symm
      · rw [getD_set_ne false e] at hj; exact .inr hj
    have key : ∀ (v : Value) (w' : World), Fresh w w' → R i v w' → wpAny P .any ops Q f (done.setIfInBounds i true) (a.put o.dst v) w' := fun v w' hf' hv => by
      refine ih _ _ _ ⟨by rw [put_size]; exact h.size, by rw [put_defers]; exact h.defers, h.fr.trans hf', ?_, by rw [Array.size_setIfInBounds]; exact h.dsz, fun t ht => ?_, fun j e hj he => ?_⟩ ?_
      · intro k p hk hkd e he hbe
        rcases hset k hkd with rfl | h2
        · rw [ho] at hk; cases hk; exact getD_set_true (hall e he hbe)
        · exact getD_set_true (h.closed k p hk h2 e he hbe)
      · have hti : d ≠ t := fun e => ht i (by simp [hld]) (by rw [hdi, e])
        rw [hd, ev_ne hti]
        exact h.same t (fun j hj => ht j (getD_set_true hj))
      · by_cases e2 : i = j
        · subst e2
          rw [hdi] at he; cases he
          rw [hd, ev_same (by rw [h.size]; exact hdn)]
          exact hv
        · rw [getD_set_ne false e2] at hj
          have hjs : j < ops.size := by rw [← h.dsz]; exact getD_lt hj
          have hdne : d ≠ e := fun e3 => hne j hjs e2 (by rw [hdi, he, e3])
          rw [hd, ev_ne hdne]
          exact hst j _ w w' (h.res j e hj he) hf'
      · have := countP_less (p := fun j => !done.getD j true) (q := fun j => !(done.setIfInBounds i true).getD j true) (List.range ops.size) (fun x _ hx => by
          by_cases e : i = x
          · subst e; simp [hld] at hx
          · rw [getD_set_ne true e] at hx; exact hx) i (List.mem_range.2 hlt) (by simp [h0]) (by simp [hld])
        omega
    have hs' := hs i o ho a w h.fr (fun j e hj he => h.res j e (waitsM_spec h.closed i o hj ho hall) he) (fun t ht => h.same t (fun j hj he => by
      have hjs : j < ops.size := by rw [← h.dsz]; exact getD_lt hj
      have := List.all_eq_true.1 ht j (List.mem_range.2 hjs)
      simp only [he, beq_self_eq_true, Bool.not_true, Bool.false_or, Bool.or_eq_true, beq_iff_eq] at this
      rcases this with e | e
      · subst e; rw [h00] at hj; cases hj
      · have hjo : ops[j]? = some ops[j] := Array.getElem?_eq_getElem hjs
        have := waitsM_spec h.closed j ops[j] e hjo (h.closed j _ hjo hj)
        rw [h00] at this; cases this))
    rcases hs' with ⟨v, w', hr, hf', hv⟩ | ⟨fn, args, hr, hc⟩
    · exact wpOp_run ho hg hr (key v w' hf' hv)
    · exact wpOp_call2 ho hg hr hc (fun e w' ⟨v, he, hf', hv⟩ => ⟨v, he, key v w' hf' hv⟩)
/-- THE REGION: its operations' values known ahead, those apart that 'S' speaks of. -/
theorem flowM_region {id : Nat} {ops : Array Oper} {A0 : Act} {w : World} (vs : List (Option Value)) (S : Nat → Value → World → Prop) (hm : P.follows .mixedOrders = true)
    {n : Nat} (hn : A0.tmps.size = n) (hb : flowB ops n = true) (hS : ∀ i v w w', S i v w → Fresh w w' → S i v w')
    (hs : AllFrom (FStepM P ops (Rel vs S) A0 w.drew) 0 ops.toList)
    (hQ : ∀ a w', a.tmps.size = n → a.defers = A0.defers → Fresh w.drew w' → (∀ t, ((List.range ops.size).all fun j => !(dstOf ops j == some t)) = true → a.eval (.tmp t) = A0.eval (.tmp t)) → (∀ j d, dstOf ops j = some d → Rel vs S j (a.eval (.tmp d)) w') → Q .normal a w') : (Code.region id ops true).wp P Q A0 w := by
  subst hn
  refine wp_region_any hm (flowM_any (R := Rel vs S) (w0 := w.drew) hb (Rel.move hS) (fun i o ho => ?_) (fun a w' h => ?_) _ _ _ _ ⟨rfl, rfl, .refl _, fun k o _ hk => ?_, by simp, fun t _ => rfl, fun j d hj => ?_⟩ ?_)
  · have := allFrom_spec ops.toList 0 hs i o (by simpa using ho)
    rwa [Nat.zero_add] at this
  · have hdone : ∀ j d, dstOf ops j = some d → (Array.replicate ops.size true).getD j false = true := fun j d hd => by
      have : j < ops.size := by
        rcases Nat.lt_or_ge j ops.size with h1 | h1
        · exact h1
        · simp [dstOf, Array.getElem?_eq_none h1] at hd
      simp [this]
    refine hQ a w' h.size h.defers h.fr (fun t ht => h.same t (fun j hj he => ?_)) (fun j d hd => h.res j d (hdone j d hd) hd)
    have hjs : j < ops.size := by
      have := getD_lt hj
      simpa using this
    have := List.all_eq_true.1 ht j (List.mem_range.2 hjs)
    rw [he] at this
    simp at this
  · exfalso
    have h1 := getD_lt hk
    simp at h1
    simp [h1] at hk
  · exfalso
    have h1 := getD_lt hj
    simp at h1
    simp [h1] at hj
  · have := List.countP_le_length (p := fun j => !(Array.replicate ops.size false).getD j true) (l := List.range ops.size)
    simpa using this
end
end Go.Proofs.YtldncgelghcjeaaGreatDoor.K
namespace Go.Proofs.YtldncgelghcjeaaGreatDoor.K
open Go.ChangeShapes Go.WideShapes Go.ChangeAt Go.RowKit
set_option maxRecDepth 100000
set_option linter.unusedSimpArgs false

def sm3 : Nat → List P3 → Bool
  | _, [] => true
  | n, p :: l => if 40000 < n + (10 + p.file.size + weight p.pd) then false else sm3 (n + (10 + p.file.size + weight p.pd)) l
theorem sm3_drop {l : List P3} {k : Nat} (h : k < l.length) (n : Nat) : sm3 n (l.drop k) = if 40000 < n + (10 + l[k].file.size + weight l[k].pd) then false else sm3 (n + (10 + l[k].file.size + weight l[k].pd)) (l.drop (k + 1)) := by
  rw [List.drop_eq_getElem_cons h, sm3]
theorem weightA_up : ∀ (l : List Ct) (n : Nat), weightA n l ≤ n + 20001
  | [], n => by rw [weightA]; omega
  | c :: l, n => by
    rw [weightA]
    split
    · omega
    · rename_i h
      have : ∀ (l : List Ct) (m : Nat), m ≤ 20000 → weightA m l ≤ 20001 := by
        intro l
        induction l with
        | nil => intro m hm; rw [weightA]; omega
        | cons d l ih =>
          intro m _
          rw [weightA]
          split
          · omega
          · exact ih _ (by omega)
      have := this l _ (Nat.le_of_not_lt h)
      omega
set_option maxHeartbeats 8000000 in
theorem small3_any (seq : Int) (a : Option Addr) (l : List M3) (c : Nat) (w : World) (h : Row3 w a l) (hlo : ∀ m ∈ l, m.p.Lo) (hl : l.length ≤ 1048576) :
    Calls Tryz.prog 9 #[st3 seq a l.length c] w fun e w' => e = .returned (.bool (sm3 0 (pods3 l))) ∧ Fresh w w' := by
  have HA := Lib.hid (at_new w (.cells #[.int .u64 seq, .slice a l.length c] 25))
  have HF0 := Lib.hid ((Fresh.refl w).alloc (.cells #[.int .u64 seq, .slice a l.length c] 25))
  have HROW := Lib.hid (h.move HF0.out)
  have HLO := Lib.hid hlo
  have HC : Hid (sm3 0 (pods3 l) = sm3 0 ((pods3 l).drop 0)) := rfl
  have hpl : (pods3 l).length = l.length := by simp [pods3]
  generalize sm3 0 (pods3 l) = E at *
  dsimp only [st3] at *
  clear h hlo
  go_enter Tryz.func9, Tryz.ntmps9
  go_wp2
  generalize w.alloc (.cells #[.int .u64 seq, .slice a l.length c] 25) = W1 at *
  obtain ⟨z, hz⟩ : ∃ z, z = w.heap.size := ⟨_, rfl⟩
  rw [← hz] at HA ⊢
  clear hz
  go_loopw [3, 9] (fun a3 a9 wr => ∃ (k n : Nat), a9 = .int .i64 (k : Int) ∧ a3 = .int .i64 (n : Int) ∧ k ≤ l.length ∧ n ≤ 40000 ∧ Hid (E = sm3 n ((pods3 l).drop k)) ∧ Hid (Fresh W1 wr)) (fun _ a9 _ => l.length - (intOf a9).toNat)
  case atStart => exact ⟨0, 0, rfl, rfl, Nat.zero_le _, by omega, HC.out, .refl _⟩
  case round =>
  clear HC
  obtain ⟨k, n, rfl, rfl, hk, hn, HE, HF⟩ := hrel
  by_cases hlt : k < l.length
  case pos =>
    have hR := HROW.out.move HF.out
    obtain ⟨gb, o1, rfl, hc⟩ := m3_form hR.row hlt
    obtain ⟨c0, c1, c2, c3, c4, c5, c6⟩ := hc k hlt
    have hkp : k < (pods3 l).length := by omega
    have hpk := pods3_get hlt hkp
    have HLK := Lib.hid (HLO.out _ (List.getElem_mem hlt))
    have HIN := Lib.hid (hR.ins _ (List.getElem_mem hlt))
    have HST : Hid (E = if 40000 < n + (10 + l[k].p.file.size + weight l[k].p.pd) then false else sm3 (n + (10 + l[k].p.file.size + weight l[k].p.pd)) ((pods3 l).drop (k + 1))) := by
      have := HE.out.trans (sm3_drop hkp n)
      rw [hpk] at this; exact this
    clear hc hR hkp hpk HE
    generalize l[k] = m at *
    have HLOW := Lib.hid HLK.out.low
    have hfile := HLK.out.file
    have hname := HLK.out.name
    have hns := HLK.out.ns
    obtain ⟨file, name, ns, r, g, hb, ca, cc, cs⟩ := m
    simp only [M3.p, PM.pd] at hfile hname hns HST
    have hw : weight (PM.pd ⟨name, ns, r, g, hb, ca, cc, cs⟩) ≤ 2117153 := by
      have := weightA_up (PM.pd ⟨name, ns, r, g, hb, ca, cc, cs⟩).cs (name.size + ns.size)
      have e : weight (PM.pd ⟨name, ns, r, g, hb, ca, cc, cs⟩) = weightA (name.size + ns.size) (PM.pd ⟨name, ns, r, g, hb, ca, cc, cs⟩).cs := rfl
      rw [e]; omega
    have hWV : PM.val ⟨name, ns, r, g, hb, ca, cc, cs⟩ = Value.agg #[.string name, .string ns, .int .i64 r, .int .i64 g, .bool hb, .slice ca cs.length cc] := rfl
    have HST : Hid (E = if 40000 < n + (10 + file.size + weight (PM.pd ⟨name, ns, r, g, hb, ca, cc, cs⟩)) then false else sm3 (n + (10 + file.size + weight (PM.pd ⟨name, ns, r, g, hb, ca, cc, cs⟩))) ((pods3 l).drop (k + 1))) := HST.out
    have HW : Hid (∀ W, Fresh wr W → Calls Tryz.prog 40 #[.agg #[.string name, .string ns, .int .i64 r, .int .i64 g, .bool hb, .slice ca cs.length cc]] W fun e w' => e = .returned (.int .i64 (weight (PM.pd ⟨name, ns, r, g, hb, ca, cc, cs⟩) : Int)) ∧ Fresh W w') := fun W f => by
      have := weight_any ⟨name, ns, r, g, hb, ca, cc, cs⟩ W (HIN.out.move f) HLOW.out
      rw [hWV] at this; exact this
    clear hWV HIN HLOW HLK
    dsimp only at *
    generalize weight (PM.pd ⟨name, ns, r, g, hb, ca, cc, cs⟩) = K at *
    have HP := Lib.hid (at_new wr (.cells #[.string file, .string name, .string ns, .int .i64 r, .int .i64 g, .bool hb, .slice ca cs.length cc] 93))
    have HF1 := Lib.hid ((Fresh.refl wr).alloc (.cells #[.string file, .string name, .string ns, .int .i64 r, .int .i64 g, .bool hb, .slice ca cs.length cc] 93))
    have w1 : IntKind.i64.wrap (10 + (file.size : Int)) = 10 + (file.size : Int) := IntWalk.i64_in _ (by omega)
    have w2 : IntKind.i64.wrap (10 + (file.size : Int) + (K : Int)) = 10 + (file.size : Int) + (K : Int) := IntWalk.i64_in _ (by omega)
    obtain ⟨s, hs⟩ : ∃ s, s = n + (10 + file.size + K) := ⟨_, rfl⟩
    have w3 : IntKind.i64.wrap ((n : Int) + (10 + (file.size : Int) + (K : Int))) = (s : Int) := by rw [IntWalk.i64_in _ (by omega)]; omega
    have hs1 : s ≤ 4000000 := by omega
    rw [← hs] at HST
    clear hs hw hfile hname hns
    have i1 : (0 : Int) ≤ (k : Int) := by omega
    have i2 : (k : Int) < (l.length : Int) := by omega
    go_wp2_with (fail)
    all_goals try (exfalso; omega)
    generalize wr.alloc (.cells #[.string file, .string name, .string ns, .int .i64 r, .int .i64 g, .bool hb, .slice ca cs.length cc] 93) = V1 at *
    obtain ⟨y, hy⟩ : ∃ y, y = wr.heap.size := ⟨_, rfl⟩
    rw [← hy] at HP ⊢
    clear hy
    have HW : Hid (∀ W, Fresh V1 W → Calls Tryz.prog 40 #[.agg #[.string name, .string ns, .int .i64 r, .int .i64 g, .bool hb, .slice ca cs.length cc]] W fun e w' => e = .returned (.int .i64 (K : Int)) ∧ Fresh W w') := fun W f => HW.out W (HF1.out.trans f)
    have HKQ : Hid (∀ W, Fresh V1 W → W.cell? ⟨y, 0, none⟩ = some (.string file) ∧ W.cell? ⟨y, 1, none⟩ = some (.string name) ∧ W.cell? ⟨y, 2, none⟩ = some (.string ns) ∧ W.cell? ⟨y, 3, none⟩ = some (.int .i64 r) ∧ W.cell? ⟨y, 4, none⟩ = some (.int .i64 g) ∧ W.cell? ⟨y, 5, none⟩ = some (.bool hb) ∧ W.cell? ⟨y, 6, none⟩ = some (.slice ca cs.length cc)) := fun W f =>
      ⟨cell_of_at (f.at HP.out) rfl, cell_of_at (f.at HP.out) rfl, cell_of_at (f.at HP.out) rfl, cell_of_at (f.at HP.out) rfl, cell_of_at (f.at HP.out) rfl, cell_of_at (f.at HP.out) rfl, cell_of_at (f.at HP.out) rfl⟩
    clear c0 c1 c2 c3 c4 c5 c6
    have HK : Hid (Fresh V1 V1.drew) := (Fresh.refl V1).drew
    rename_i KK hKK
    refine flowM_region [some (Value.int .i64 (n : Int)), some (Value.pointer (some ⟨y, 0, none⟩)), some (Value.string file), some (Value.int .i64 (file.size : Int)), some (Value.int .i64 (10 + (file.size : Int))), some (Value.pointer (some ⟨y, 1, none⟩)), some (Value.agg #[.string name, .string ns, .int .i64 r, .int .i64 g, .bool hb, .slice ca cs.length cc]), some (Value.int .i64 (K : Int)), some (Value.int .i64 (10 + (file.size : Int) + (K : Int))), some (Value.int .i64 (s : Int)), some (Value.int .i64 (s : Int))] (fun _ _ _ => False) rfl (n := 26) rfl (by decide +kernel) (fun _ _ _ _ h _ => h) ⟨?_, ?_, ?_, ?_, ?_, ?_, ?_, ?_, ?_, ?_, ?_, trivial⟩ ?_
    · intro a W hf hin hst
      have g3 := ev_get (show a.eval (.tmp 3) = Value.int .i64 (n : Int) from hst 3 (by decide +kernel))
      refine .inl ⟨Value.int .i64 (n : Int), W, ?_, .refl _, rfl⟩
      simp [execOp, g3, go_sem]
    · intro a W hf hin hst
      have g5 := ev_get (show a.eval (.tmp 5) = Value.pointer (some ⟨y, 0, none⟩) from hst 5 (by decide +kernel))
      refine .inl ⟨Value.pointer (some ⟨y, 0, none⟩), W, ?_, .refl _, rfl⟩
      simp [execOp, g5, go_sem]
    · intro a W hf hin hst
      obtain ⟨m0, m1, m2, m3, m4, m5, m6⟩ := HKQ.out W (HK.out.trans hf)
      have g14 := ev_get (show a.eval (.tmp 14) = Value.pointer (some ⟨y, 0, none⟩) from hin 1 14 (by decide +kernel) (by decide +kernel))
      refine .inl ⟨Value.string file, W, ?_, .refl _, rfl⟩
      simp [execOp, g14, go_sem, m0, m1, m2, m3, m4, m5, m6]
    · intro a W hf hin hst
      have g15 := ev_get (show a.eval (.tmp 15) = Value.string file from hin 2 15 (by decide +kernel) (by decide +kernel))
      refine .inl ⟨Value.int .i64 (file.size : Int), W, ?_, .refl _, rfl⟩
      simp [execOp, g15, go_sem]
    · intro a W hf hin hst
      have g16 := ev_get (show a.eval (.tmp 16) = Value.int .i64 (file.size : Int) from hin 3 16 (by decide +kernel) (by decide +kernel))
      refine .inl ⟨Value.int .i64 (10 + (file.size : Int)), W, ?_, .refl _, rfl⟩
      simp [execOp, g16, go_sem, w1]
    · intro a W hf hin hst
      have g5 := ev_get (show a.eval (.tmp 5) = Value.pointer (some ⟨y, 0, none⟩) from hst 5 (by decide +kernel))
      refine .inl ⟨Value.pointer (some ⟨y, 1, none⟩), W, ?_, .refl _, rfl⟩
      simp [execOp, g5, go_sem]
    · intro a W hf hin hst
      obtain ⟨m0, m1, m2, m3, m4, m5, m6⟩ := HKQ.out W (HK.out.trans hf)
      have g18 := ev_get (show a.eval (.tmp 18) = Value.pointer (some ⟨y, 1, none⟩) from hin 5 18 (by decide +kernel) (by decide +kernel))
      refine .inl ⟨Value.agg #[.string name, .string ns, .int .i64 r, .int .i64 g, .bool hb, .slice ca cs.length cc], W, ?_, .refl _, rfl⟩
      simp [execOp, g18, go_sem, m0, m1, m2, m3, m4, m5, m6]
    · intro a W hf hin hst
      have g19 := ev_get (show a.eval (.tmp 19) = Value.agg #[.string name, .string ns, .int .i64 r, .int .i64 g, .bool hb, .slice ca cs.length cc] from hin 6 19 (by decide +kernel) (by decide +kernel))
      exact .inr ⟨40, #[Value.agg #[.string name, .string ns, .int .i64 r, .int .i64 g, .bool hb, .slice ca cs.length cc]], by simp [execOp, g19, go_sem], (HW.out W (HK.out.trans hf)).mono (fun e V h => ⟨_, h.1, h.2, rfl⟩)⟩
    · intro a W hf hin hst
      have g17 := ev_get (show a.eval (.tmp 17) = Value.int .i64 (10 + (file.size : Int)) from hin 4 17 (by decide +kernel) (by decide +kernel))
      have g20 := ev_get (show a.eval (.tmp 20) = Value.int .i64 (K : Int) from hin 7 20 (by decide +kernel) (by decide +kernel))
      refine .inl ⟨Value.int .i64 (10 + (file.size : Int) + (K : Int)), W, ?_, .refl _, rfl⟩
      simp [execOp, g17, g20, go_sem, w2]
    · intro a W hf hin hst
      have g13 := ev_get (show a.eval (.tmp 13) = Value.int .i64 (n : Int) from hin 0 13 (by decide +kernel) (by decide +kernel))
      have g21 := ev_get (show a.eval (.tmp 21) = Value.int .i64 (10 + (file.size : Int) + (K : Int)) from hin 8 21 (by decide +kernel) (by decide +kernel))
      refine .inl ⟨Value.int .i64 (s : Int), W, ?_, .refl _, rfl⟩
      simp [execOp, g13, g21, go_sem, w3]
    · intro a W hf hin hst
      have g22 := ev_get (show a.eval (.tmp 22) = Value.int .i64 (s : Int) from hin 9 22 (by decide +kernel) (by decide +kernel))
      refine .inl ⟨Value.int .i64 (s : Int), W, ?_, .refl _, rfl⟩
      simp [execOp, g22, go_sem]
    intro a W hsz hdf hf hkp hr
    have HK := Lib.hid (HK.out.trans hf)
    have ha := act_lit (n := 26) hsz hdf
    have k0 : a.eval (.tmp 0) = Value.agg #[.int .u64 seq, .slice (some ⟨gb, o1, none⟩) l.length c] := hkp 0 (by decide +kernel)
    have k1 : a.eval (.tmp 1) = Value.pointer (some ⟨z, 0, none⟩) := hkp 1 (by decide +kernel)
    have k4 : a.eval (.tmp 4) = undef := hkp 4 (by decide +kernel)
    have k6 : a.eval (.tmp 6) = Value.pointer (some ⟨z, 1, none⟩) := hkp 6 (by decide +kernel)
    have k7 : a.eval (.tmp 7) = Value.slice (some ⟨gb, o1, none⟩) l.length c := hkp 7 (by decide +kernel)
    have k8 : a.eval (.tmp 8) = Value.int .i64 (l.length : Int) := hkp 8 (by decide +kernel)
    have k9 : a.eval (.tmp 9) = Value.int .i64 (k : Int) := hkp 9 (by decide +kernel)
    have k3 : a.eval (.tmp 3) = Value.int .i64 (s : Int) := hr 10 3 (by decide +kernel)
    simp only [List.range, List.range.loop, List.map_cons, List.map_nil, k0, k1, k4, k6, k7, k8, k9, k3] at ha
    clear k0 k1 k4 k6 k7 k8 k9 k3 hsz hdf hkp hr hf
    generalize a.eval (.tmp 2) = v2 at ha
    generalize a.eval (.tmp 5) = v5 at ha
    generalize a.eval (.tmp 10) = v10 at ha
    generalize a.eval (.tmp 11) = v11 at ha
    generalize a.eval (.tmp 12) = v12 at ha
    generalize a.eval (.tmp 13) = v13 at ha
    generalize a.eval (.tmp 14) = v14 at ha
    generalize a.eval (.tmp 15) = v15 at ha
    generalize a.eval (.tmp 16) = v16 at ha
    generalize a.eval (.tmp 17) = v17 at ha
    generalize a.eval (.tmp 18) = v18 at ha
    generalize a.eval (.tmp 19) = v19 at ha
    generalize a.eval (.tmp 20) = v20 at ha
    generalize a.eval (.tmp 21) = v21 at ha
    generalize a.eval (.tmp 22) = v22 at ha
    generalize a.eval (.tmp 23) = v23 at ha
    generalize a.eval (.tmp 24) = v24 at ha
    generalize a.eval (.tmp 25) = v25 at ha
    subst ha
    refine hKK _ W ?_
    have HFN := Lib.hid ((HF.out.trans HF1.out).trans HK.out)
    clear hKK
    by_cases hbig : 40000 < s
    · have HR : Hid (E = false) := by rw [Hid, HST.out, if_pos hbig]
      clear HST
      go_wp2
      all_goals try (exfalso; omega)
      go_ret
      exact ⟨ret_bool HR.out.symm, HF0.out.trans HFN.out⟩
    · have HR : Hid (E = sm3 s ((pods3 l).drop (k + 1))) := by rw [Hid, HST.out, if_neg hbig]
      clear HST
      go_wp2
      all_goals try (exfalso; omega)
      go_roundw
      case rel => exact ⟨k + 1, s, by simp, rfl, by omega, by omega, HR.out, HFN.out⟩
      case measure => simp [intOf]; omega
  case neg =>
    obtain rfl : k = l.length := by omega
    have HR : Hid (E = true) := by rw [Hid, HE.out, List.drop_of_length_le (by omega)]; rfl
    go_wp2
    all_goals try (exfalso; omega)
    go_ret
    exact ⟨ret_bool HR.out.symm, HF0.out.trans HF.out⟩
theorem small3_at (seq : Int) (a : Option Addr) (L : List P3) (c : Nat) (w : World) (h : AtL L w a) (hl : L.length ≤ 1048576) (hlo : ∀ p ∈ L, p.Lo) :
    Calls Tryz.prog 9 #[st3 seq a L.length c] w fun e w' => e = .returned (.bool (sm3 0 L)) ∧ Fresh w w' := by
  obtain ⟨D, rfl, hr⟩ := h
  rw [pods3_length] at hl ⊢
  exact small3_any seq a D c w hr (fun m hm => hlo _ (pods3_mem hm)) hl
end Go.Proofs.YtldncgelghcjeaaGreatDoor.K
namespace Go.Proofs.YtldncgelghcjeaaGreatDoor.K
open Go.ChangeShapes Go.WideShapes Go.ChangeAt Go.RowKit
set_option maxRecDepth 100000

theorem hp_move {K : List P2} {W W' : World} {o : Option Addr} (h : AtP K W o) (f : Fresh W W') : AtP K W' o := h.move f
def dnL (M : Bool) (L : List P3) : List P2 := if M = true then L.map dn else []
def dnQ (M : Bool) (q : Int) : Int := if M = true then q else 0
theorem DownIs.got {M : Bool} {seq : Int} {L : List P3} {w w' : World} {e : Ending} (h : DownIs M seq L w e w') : ∃ o cp, e = .returned (.tuple #[st2 (dnQ M seq) o (dnL M L).length cp, .bool M]) ∧ AtP (dnL M L) w' o ∧ Fresh w w' := by
  rcases h with ⟨rfl, o, cp, h1, h2, h3⟩ | ⟨rfl, h1, h2⟩
  · refine ⟨o, cp, ?_, h2, h3⟩
    rw [h1]
    simp [dnL, dnQ]
  · exact ⟨none, 0, h1, AtP.nil _ _, h2⟩
theorem dnL_sm {M : Bool} {L : List P3} (h : ∀ p ∈ L, p.Lo) (hl : L.length ≤ 1048576) : (dnL M L).length ≤ 1048576 ∧ ∀ p ∈ dnL M L, p.Sm := by
  unfold dnL
  split
  · exact ⟨by rw [List.length_map]; exact hl, mapS3 h⟩
  · exact ⟨Nat.zero_le _, fun p hp => absurd hp List.not_mem_nil⟩
set_option maxHeartbeats 8000000 in
theorem down_any (seq : Int) (a : Option Addr) (L : List P3) (c : Nat) (w : World) (h : AtL L w a) (hT : Tabs w) (hl : L.length ≤ 1048576) (hlo : ∀ p ∈ L, p.Lo) (hs0 : 0 ≤ seq) (hs1 : seq ≤ 18446744073709551615) :
    Calls Tryz.prog 7 #[st3 seq a L.length c] w fun e w' => e = .returned (.bool true) ∧ Fresh w w' := by
  have HT := Lib.hid hT
  have HAW := Lib.hid (fun W (f : Fresh w W) => awake20_any W (HT.out.move f))
  have HF0 := Lib.hid ((Fresh.refl w).alloc (.cells #[.int .u64 seq, .slice a L.length c] 25))
  have HA := Lib.hid (at_new w (.cells #[.int .u64 seq, .slice a L.length c] 25))
  have HSM := Lib.hid (small3_at seq a L c _ (h.move HF0.out) hl hlo)
  obtain ⟨hkl, hks⟩ := dnL_sm (M := L.all may) hlo hl
  have HD1 : Hid (∀ W, Fresh w W → Calls Tryz.prog 35 #[.agg #[.int .u64 seq, .slice a L.length c]] W fun e w' => ∃ o cp, e = .returned (.tuple #[.agg #[.int .u64 (dnQ (L.all may) seq), .slice o (dnL (L.all may) L).length cp], .bool (L.all may)]) ∧ AtP (dnL (L.all may) L) w' o ∧ Fresh W w') := fun W f => (down_c seq a L c W (h.move f) hl hlo).mono (fun e w' hd => hd.got)
  have HOF : Hid (∀ W, Fresh w W → Calls Tryz.prog 11 #[.agg #[.int .u64 seq, .slice a L.length c]] W fun r w' => ∃ a c, r = .returned (.agg #[.int .u64 seq, .slice a L.length c]) ∧ AtL L w' a ∧ Fresh W w') := fun W f => of3_at seq a L c W (h.move f) hl hlo
  have HD2 : Hid (∀ W a c, AtL L W a → Calls Tryz.prog 36 #[.agg #[.int .u64 seq, .slice a L.length c]] W fun e w' => ∃ o cp, e = .returned (.tuple #[.agg #[.int .u64 (dnQ (L.all may) seq), .slice o (dnL (L.all may) L).length cp], .bool (L.all may)]) ∧ AtP (dnL (L.all may) L) w' o ∧ Fresh W w') := fun W a c hr => (rdown_any seq a L c W hr hl hlo).mono (fun e w' hd => hd.got)
  generalize dnQ (L.all may) seq = q at *
  generalize dnL (L.all may) L = K at *
  generalize L.all may = M at *
  have HO2 : Hid (∀ W o cp, AtP K W o → Calls Tryz.prog 28 #[.agg #[.int .u64 q, .slice o K.length cp]] W fun r w' => ∃ o cp, r = .returned (.agg #[.int .u64 q, .slice o K.length cp]) ∧ AtP K w' o ∧ Fresh W w') := fun W o cp hp => of2_at q o K cp W hp (by omega) (fun p hp => Nat.le_trans (hks p hp).2 (by decide))
  have HSAME : Hid (∀ W o cp o' cp', AtP K W o → AtP K W o' → Calls Tryz.prog 29 #[.agg #[.int .u64 q, .slice o K.length cp], .agg #[.int .u64 q, .slice o' K.length cp']] W fun e w' => e = .returned (.bool true) ∧ Fresh W w') := fun W o cp o' cp' h1 h2 => by
    have := rsame2_at q q K K o o' cp cp' W h1 h2 (by omega) (fun p hp => Nat.le_trans (hks p hp).2 (by decide))
    rw [same2_self] at this
    exact this
  generalize K.length = n at *
  clear hT hks hlo h
  dsimp only [st3] at *
  cases hsm : sm3 0 L with
  | false =>
    rw [hsm] at HSM
    clear hsm HD1 HOF HD2 HO2 HSAME
    go_enter Tryz.func7, Tryz.ntmps7
    go_wp2_with (fail)
    refine HSM.out.mono ?_
    rintro e w1 ⟨rfl, hf⟩
    have HF1 := Lib.hid (HF0.out.trans hf)
    clear hf
    go_wp2_with (fail)
    refine (HAW.out _ HF1.out).mono ?_
    rintro e w2 ⟨rfl, hf⟩
    have HF2 := Lib.hid (HF1.out.trans hf)
    clear hf
    go_wp2
    go_ret
    exact ⟨rfl, HF2.out⟩
  | true =>
    rw [hsm] at HSM
    clear hsm
    go_enter Tryz.func7, Tryz.ntmps7
    go_wp2_with (fail)
    refine HSM.out.mono ?_
    rintro e w1 ⟨rfl, hf⟩
    have HF1 := Lib.hid (HF0.out.trans hf)
    have hA1 := hf.at HA.out
    have q0 := cell_of_at hA1 (i := 0) rfl
    have q1 := cell_of_at hA1 (i := 1) rfl
    have HA1 := Lib.hid hA1
    clear hf hA1 HA
    go_wp2_with (fail)
    refine (HD1.out _ HF1.out).mono ?_
    rintro e w2 ⟨o, cp, rfl, hp, hf⟩
    have HB := Lib.hid (at_new w2 (.cells #[.int .u64 q, .slice o n cp] 66))
    have HF2 := Lib.hid ((HF1.out.trans hf).alloc (.cells #[.int .u64 q, .slice o n cp] 66))
    have HP := Lib.hid (hp.move ((Fresh.refl w2).alloc (.cells #[.int .u64 q, .slice o n cp] 66)))
    have HA2 := Lib.hid (at_alloc (p := .cells #[.int .u64 q, .slice o n cp] 66) (hf.at HA1.out))
    clear hf hp q0 q1 HA1
    have q0 := cell_of_at HA2.out (i := 0) rfl
    have q1 := cell_of_at HA2.out (i := 1) rfl
    go_wp2_with (fail)
    generalize w2.alloc (.cells #[.int .u64 q, .slice o n cp] 66) = V2 at *
    obtain ⟨z3, hz3⟩ : ∃ z, z = w2.heap.size := ⟨_, rfl⟩
    rw [← hz3] at HB ⊢
    clear hz3
    refine (HOF.out _ HF2.out).mono ?_
    rintro e w3 ⟨a3, c3, rfl, hr, hf⟩
    have HF3 := Lib.hid (HF2.out.trans hf)
    have HB3 := Lib.hid (hf.at HB.out)
    have HP3 := Lib.hid (hp_move HP.out hf)
    clear hf q0 q1 HB HP HA2
    go_wp2_with (fail)
    refine (HD2.out _ a3 c3 hr).mono ?_
    rintro e w4 ⟨o5, cp5, rfl, hp5, hf⟩
    have HB5 := Lib.hid (at_new w4 (.cells #[.int .u64 q, .slice o5 n cp5] 75))
    have HB3 := Lib.hid (at_alloc (p := .cells #[.int .u64 q, .slice o5 n cp5] 75) (hf.at HB3.out))
    have HF4 := Lib.hid ((HF3.out.trans hf).alloc (.cells #[.int .u64 q, .slice o5 n cp5] 75))
    have HP3 := Lib.hid ((hp_move HP3.out hf).move ((Fresh.refl w4).alloc (.cells #[.int .u64 q, .slice o5 n cp5] 75)))
    have HP5 := Lib.hid (hp5.move ((Fresh.refl w4).alloc (.cells #[.int .u64 q, .slice o5 n cp5] 75)))
    clear hf hp5 hr
    go_wp2_with (fail)
    generalize w4.alloc (.cells #[.int .u64 q, .slice o5 n cp5] 75) = V4 at *
    obtain ⟨z5, hz5⟩ : ∃ z, z = w4.heap.size := ⟨_, rfl⟩
    rw [← hz5] at HB5 ⊢
    clear hz5
    have HKP : Hid (∀ W, Fresh V4 W → W.cell? ⟨z3, 0, none⟩ = some (.int .u64 q) ∧ W.cell? ⟨z3, 1, none⟩ = some (.slice o n cp) ∧ W.cell? ⟨z5, 0, none⟩ = some (.int .u64 q) ∧ W.cell? ⟨z5, 1, none⟩ = some (.slice o5 n cp5)) := fun W f =>
      ⟨cell_of_at (f.at HB3.out) (i := 0) rfl, cell_of_at (f.at HB3.out) (i := 1) rfl, cell_of_at (f.at HB5.out) (i := 0) rfl, cell_of_at (f.at HB5.out) (i := 1) rfl⟩
    obtain ⟨k0, k1, k2, k3⟩ := HKP.out V4 (.refl _)
    have HK : Hid (Fresh V4 V4.drew) := (Fresh.refl V4).drew
    have hmm : (M == M) = true := by cases M <;> rfl
    go_region_held3 (fun w' => (w'.cell? ⟨z3, 0, none⟩ = some (.int .u64 q) ∧ w'.cell? ⟨z3, 1, none⟩ = some (.slice o n cp) ∧ w'.cell? ⟨z5, 0, none⟩ = some (.int .u64 q) ∧ w'.cell? ⟨z5, 1, none⟩ = some (.slice o5 n cp5))) (go_keep)
      (first
        | (go_at_call 26; (with_reducible refine (HAW.out _ (HF4.out.trans HK.out)).mono ?_); rintro e W2 ⟨rfl, hf⟩; have HK := Lib.hid (HK.out.trans hf); obtain ⟨k0, k1, k2, k3⟩ := HKP.out _ HK.out; clear hf)
        | (go_at_call 28; (with_reducible refine (HO2.out _ o cp (hp_move HP3.out HK.out)).mono ?_); rintro e W2 ⟨o6, cp6, rfl, hown, hf⟩; have HRQ := Lib.hid hown; have HK := Lib.hid (HK.out.trans hf); obtain ⟨k0, k1, k2, k3⟩ := HKP.out _ HK.out; clear hf hown)
        | (go_at_call 29; (with_reducible refine (HSAME.out _ _ _ _ _ HRQ.out (hp_move HP5.out HK.out)).mono ?_); rintro e W2 ⟨rfl, hf⟩; have HK := Lib.hid (HK.out.trans hf); obtain ⟨k0, k1, k2, k3⟩ := HKP.out _ HK.out; clear hf))
    all_goals go_wp2
    all_goals go_ret
    all_goals exact ⟨rfl, HF4.out.trans HK.out⟩
end Go.Proofs.YtldncgelghcjeaaGreatDoor.K
namespace Go.Proofs.YtldncgelghcjeaaGreatDoor
open Go.ChangeShapes Go.WideShapes Go.ChangeAt Go.RowKit Go.Shelf
open Go.ChangeMaps (open_string shut_string)
set_option linter.unusedVariables false

theorem laid_met_down (os : Os) (args : Array Value) : laidMet Tryz.prog Rows.upgradeDownUptoRow.laid ((laidWorld os).forCall (fun _ _ => 0) ⟨#[], args, []⟩).memory :=
  (LaidIn.of_run (l := [("unicode/utf8.acceptRanges", Rows.laid_unicode_utf8_acceptRanges), ("unicode/utf8.first", Rows.laid_unicode_utf8_first)]) [1, 0] 8 (by kernel_rfl) (by kernel_rfl) (by kernel_rfl) (by kernel_rfl)).met
theorem witness_down (os : Os) {H : Type} (enc : TypeId × Value → H) :
    (Rows.OpenSpec.upto Rows.upgradeDownSpec).preRow enc Tryz.prog Tryz.f7 Rows.upgradeDownUptoRow.domain false Rows.upgradeDownUptoRow.laid ((laidWorld os).forCall (fun _ _ => 0) ⟨#[], #[(.agg #[.int .u64 0, .slice none 0 0] : Value)], []⟩).memory #[(.agg #[.int .u64 0, .slice none 0 0] : Value)] := by
  have hw : (DataW.whole enc Tryz.prog ((laidWorld os).forCall (fun _ _ => 0) ⟨#[], #[(.agg #[.int .u64 0, .slice none 0 0] : Value)], []⟩).memory Tryz.f7.params.toList (Rows.OpenSpec.upto Rows.upgradeDownSpec).vars false #[(.agg #[.int .u64 0, .slice none 0 0] : Value)].toList 8).map (fun x => (x.1, x.2.1)) =
      some ([.agg [.lit (.int .u64 0), .nil]], []) := by kernel_rfl
  obtain ⟨⟨x1, x2, x3⟩, hx, hx1⟩ := Option.map_eq_some_iff.1 hw
  simp only [Prod.mk.injEq] at hx1
  obtain ⟨rfl, rfl⟩ := hx1
  exact OpenSpec.preRow_of_cond 8 hx (by kernel_rfl) (fun k hk => by cases hk; kernel_rfl) (by kernel_rfl) (laid_met_down os _)
set_option maxRecDepth 100000 in
theorem utf8_tabs_down {W : World} (hL : laidMet Tryz.prog Rows.upgradeDownUptoRow.laid W) : UTabs W :=
  utf8Tabs_of_readsT u8types ⟨by kernel_rfl, by kernel_rfl, by kernel_rfl, by kernel_rfl, by kernel_rfl, by kernel_rfl, by kernel_rfl⟩
    (by rw [← first_eq]; exact Lib.laidMet.reads hL (.tail _ (.head _))) (by rw [← accept_eq]; exact Lib.laidMet.reads hL (.head _))
set_option maxRecDepth 100000 in
set_option maxHeartbeats 2000000 in
theorem lifted_down (os : Os) (started : os.Started) (H : Type) (enc : TypeId × Value → H) (F : Stop.Interp) :
    ReturnsInHanded {} Tryz.checked os 7 .any ((Rows.OpenSpec.upto Rows.upgradeDownSpec).preRow enc Tryz.prog Tryz.f7 Rows.upgradeDownUptoRow.domain false Rows.upgradeDownUptoRow.laid) (((Rows.OpenSpec.upto Rows.upgradeDownSpec).at F).post enc Tryz.prog Tryz.f7 false true false false) := by
  refine returnsInHanded_of_row (C := Tryz.checked) (s := Rows.OpenSpec.upto Rows.upgradeDownSpec) own started (by kernel_rfl) Tryz.func7
    (witness_row_atRef (enc := enc) (C := Tryz.checked) false (laidWorld os) #[(.agg #[.int .u64 0, .slice none 0 0] : Value)] rfl (by kernel_rfl) (by kernel_rfl) (by kernel_rfl) (witness_down os enc)) ?_
  intro W base args ds gs before hval0 hW _ hcond _ hL _ _
  have hval : ∀ (j : Nat) t v, Tryz.f7.params[j]? = some t → args[j]? = some v → Value.okWide Tryz.prog W .any base t v := hval0
  have hW' := hW
  obtain ⟨p, q, hA0, hV0, rfl, _, _⟩ := hW
  have hA : DataW.TrodAll enc Tryz.prog W 0 (fun _ => true) true Tryz.f7.params.toList args.toList ds p := hA0
  rw [Tryz.params7] at hA hval
  obtain ⟨v0, vs0, d0, ds0, p0, q0, hargs, rfl, rfl, h0, r0⟩ := trodAll_cons hA
  obtain ⟨rfl, rfl, rfl⟩ := trodAll_nil r0
  obtain rfl : args = #[v0] := by cases args; simp_all
  obtain ⟨rfl, rfl⟩ := trodVars_none hV0
  have hk : Rows.uptoSmall H ([d0] ++ []) = true := hcond _ rfl
  have hk2 : Rows.uptoBulkAll ([d0] ++ []) ≤ 1048576 := of_decide_eq_true hk
  simp only [List.cons_append, List.nil_append, Rows.uptoBulkAll] at hk2
  obtain ⟨s0, L0, a0, c0, e0, w0, f0, g0, b0⟩ := K.arg_st3 (hval 0 25 v0 rfl rfl) h0
  obtain ⟨l0, m0⟩ := b0 (by omega)
  have lt0 := trod_low h0
  subst e0
  refine (K.down_any s0 a0 L0 c0 W w0 (utf8_tabs_down hL) l0 m0 f0 g0).mono ?_
  rintro e W' ⟨rfl, hg⟩
  have e1 : ((Rows.OpenSpec.upto Rows.upgradeDownSpec).at F).fn H ([d0] ++ []) = { results := [.lit (.bool true)], args := [d0] } := rfl
  refine ⟨_, rfl, _, _, _, [], p0 ++ [], [], hW', ?_, ?_, ?_, hg.frame _, fun h => by cases h⟩
  · rw [e1]; exact trodAll_mk1 (shut_bool Tryz.underlying4 _)
  · rw [e1]; exact trodAll_cons_mk (Below.trod laidOut (by kernel_rfl) (of_decide_eq_true (by kernel_rfl)) h0 hg lt0) trodAll_mk0
  · rw [e1]; rfl
theorem row_down : Rows.UpgradeDownUptoSaid :=
  OpenClaim.holds_of_cond 7 Tryz.f7 rfl rfl rfl rfl rfl rfl rfl ⟨rfl, rfl, rfl, rfl, rfl⟩ rfl rfl rfl rfl rfl (by kernel_rfl) Tryz.func7 (by kernel_rfl)
    (of_decide_eq_true (by kernel_rfl)) (by unfold Func.isWrapper; first | (rw [if_neg (of_decide_eq_false (by kernel_rfl))]; exact ⟨rfl, rfl⟩) | (rw [if_pos (by decide +kernel)]; kernel_rfl))
    (fun os started H enc _ F0 => by rw [OpenClaim.pre_eq_preRow]; exact lifted_down os started H enc F0)
theorem plain_down (f : FuncId) (fn : Func) (hf : Tryz.pinned.checked.prog.funcNamed "bosun/bosunlaw20.UpgradeDown" = some f) (hfn : Tryz.pinned.checked.prog.funcs[f]? = some fn) :
    false = Tryz.pinned.checked.prog.looks [] ∧ ∀ (j : Nat) t, fn.params[j]? = some t → Tryz.pinned.checked.prog.wantsStandIn t = false := by
  obtain rfl : f = 7 := Option.some.inj ((show Tryz.prog.funcNamed "bosun/bosunlaw20.UpgradeDown" = some 7 by kernel_rfl).symm.trans hf) |>.symm
  obtain rfl : fn = Tryz.f7 := (Option.some.inj (Tryz.func7.symm.trans hfn)).symm
  refine ⟨by kernel_rfl, fun j t ht => ?_⟩
  rw [Tryz.params7] at ht
  have h3 : t = 25 := by
    rcases j with _ | j
    · exact by simpa using ht.symm
    · simp at ht
  rcases h3 with rfl
  · exact (show Tryz.prog.wantsStandIn 25 = false by kernel_rfl)
theorem upgradedown : Rows.UpgradeDownUptoCardSaid :=
  Claim7.holds_tied_plain_at .later [] _ _ _ _ row_down (fun _ h => by cases h) (by kernel_rfl) (fun _ h => by cases h) upgradeDownUpto_row_tie rfl ⟨rfl, rfl⟩ (by kernel_rfl) rfl plain_down (by kernel_rfl)
end Go.Proofs.YtldncgelghcjeaaGreatDoor
