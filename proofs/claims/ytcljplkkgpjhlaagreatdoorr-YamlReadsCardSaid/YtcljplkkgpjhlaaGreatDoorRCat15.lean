/-
  Parts of the proof: YEnt2 VOrders VBits VErase VOfL.
-/
import Derived.Test.YtcljplkkgpjhlaaGreatDoorRCat11
import Derived.OrdersHeld
import Derived.Laws.World
import Derived.Test.YtcljplkkgpjhlaaGreatDoorRCat03
import Derived.Deep.DrawnRows
import Derived.RegionTactic
import Derived.Laws.IdiomStrings
set_option maxRecDepth 100000
set_option maxHeartbeats 8000000
namespace Go.Proofs.YtcljplkkgpjhlaaGreatDoorR
namespace y
open Go.ChangeShapes Go.WideShapes Go.ChangeAt Go.RowKit
attribute [local go_sem ↓] Go.wp_at_zero Go.wp_at_succ
variable {w : World}
theorem is34 (c : UInt8) : c = 34 ↔ c.toNat = 34 := u8_iff c 34 (by decide)
theorem entM_p (c : UInt8) (r : List UInt8) (h : c.toNat ≠ 34) : entM (c :: r) = match colon (c :: r) with
    | none => (0, none)
    | some i => (0, some ⟨(c :: r).take i, false, lead ((c :: r).drop (i + 1))⟩) := by
  rw [entM, if_neg (by simp only [List.head?_cons, Option.some.injEq]; rw [is34]; exact h)]
  cases colon (c :: r) <;> rfl
theorem entry_any (b : Nat) (R : List Rw) (line : Nat) (l : List UInt8) (w : World) (h : Rdr w b R line) (hE : Env w) (hne : l ≠ []) (hl : l.length ≤ 90000) (ht : Trimmed l) :
    Calls Tryz.prog 84 #[.pointer (some ⟨b, 0, none⟩), .string (tx l)] w (EntIs w line (entM l)) := by
  obtain ⟨c, r, rfl⟩ : ∃ c r, l = c :: r := by
    cases l with
    | nil => exact absurd rfl hne
    | cons c r => exact ⟨c, r, rfl⟩
  obtain ⟨p1, p2, p3, p4⟩ : Cons (tx (c :: r)) c (tx r) := bs_cons c r
  have HB := Lib.hid (EBox.new w)
  have HF0 := Lib.hid ((Fresh.refl w).alloc (.cells #[.string ⟨#[]⟩, .bool false, .string ⟨#[]⟩] 138 (0, 0)))
  have hsd : (tx (c :: r)).size ≤ 100000 := by rw [tx_size]; omega
  clear p3 p4
  by_cases h34 : c.toNat = 34
  · obtain rfl := (is34 c).2 h34
    have HQ : Hid (∀ W : World, Fresh w W → Calls Tryz.prog 114 #[.pointer (some ⟨b, 0, none⟩), .string (tx (34 :: r))] W (EntIs W line (entM (34 :: r)))) := fun W f => quotedEntry_any b R line r W (h.move f) (hE.move f) (by simp at hl; omega) ht
    unfold EntIs at *
    clear h hE hne hl ht h34
    generalize entM (34 :: r) = x at *
    obtain ⟨k, o⟩ := x
    dsimp only at *
    generalize tx (34 :: r) = s at *
    by_cases hk : k = 0
    · have HQ1 : Hid (∀ W : World, Fresh w W → Calls Tryz.prog 114 #[.pointer (some ⟨b, 0, none⟩), .string s] W fun e w' => e = .returned (.tuple #[optV o, .bool o.isSome]) ∧ Fresh W w') := fun W f => (HQ.out W f).mono fun e w' k => ⟨k.2.1 hk, k.2.2⟩
      refine Calls.mono (R := fun e w' => e = .returned (.tuple #[optV o, .bool o.isSome]) ∧ Fresh w w') ?_ (fun e w' k => ⟨fun h => absurd hk h, fun _ => k.1, k.2⟩)
      clear HQ
      obtain ⟨a, q, bh, hv⟩ : ∃ (a : ByteArray) (q : Bool) (bh : ByteArray), optV o = .agg #[.string a, .bool q, .string bh] := by
        cases o with
        | none => exact ⟨_, _, _, rfl⟩
        | some n => exact ⟨_, _, _, rfl⟩
      rw [hv] at HQ1 ⊢
      generalize o.isSome = ob at *
      clear hv hk
      go_enter Tryz.func84, Tryz.ntmps84
      go_wp2_with fail
      generalize w.alloc (.cells #[.string ⟨#[]⟩, .bool false, .string ⟨#[]⟩] 138 (0, 0)) = w0 at *
      generalize hsz : w.heap.size = sz at *
      have HSZ := Lib.hid hsz
      clear hsz
      refine (HQ1.out _ HF0.out).mono ?_
      rintro e w1 ⟨rfl, hf⟩
      obtain ⟨c0, c1, c2, f0, f1, f2, lt⟩ := (HB.out.move hf).facts
      have HF := Lib.hid hf
      clear hf
      go_wp2
      refine bodyPost_ret (v := .tuple #[.agg #[.string a, .bool q, .string bh], .bool ob]) (by simp [results, Tryz.results84, go_sem, *]) rfl ⟨rfl, ?_⟩
      exact set3_fresh HF0.out HF.out (Nat.le_of_eq HSZ.out) _ _ _
    · have HQ1 : Hid (∀ W : World, Fresh w W → Calls Tryz.prog 114 #[.pointer (some ⟨b, 0, none⟩), .string s] W fun e w' => Panics line k e ∧ Fresh W w') := fun W f => (HQ.out W f).mono fun e w' k => ⟨k.1 hk, k.2.2⟩
      refine Calls.mono (R := fun e w' => Panics line k e ∧ Fresh w w') ?_ (fun e w' k => ⟨fun _ => k.1, fun h => absurd h hk, k.2⟩)
      clear HQ hk
      go_enter Tryz.func84, Tryz.ntmps84
      go_wp2_with fail
      refine (HQ1.out _ HF0.out).mono ?_
      rintro e w1 ⟨hp, hf⟩
      have HF1 := Lib.hid (HF0.out.trans hf)
      clear hf
      unfold Panics at hp
      subst hp
      go_wp2
      exact ⟨rfl, rfl, HF1.out⟩
  · have hne34 : ((c.toNat : Int) == 34) = false := by simp; omega
    have ea : tx (c :: r) ++ ⟨#[32]⟩ = tx (c :: r ++ [32]) := tx_app (c :: r) [32]
    have HC : Hid (∀ W : World, Fresh w W → Calls Tryz.prog 77 #[.string (tx (c :: r ++ [32])), .string ⟨#[58, 32]⟩] W fun e w' => e = .returned (.tuple #[.string (tx (Lib.cut (c :: r ++ [32]) [58, 32]).1), .string (tx (Lib.cut (c :: r ++ [32]) [58, 32]).2.1), .bool (Lib.cut (c :: r ++ [32]) [58, 32]).2.2]) ∧ Fresh W w') := fun W f => cutS_any2 _ W (by simp at hl ⊢; omega) (hE.move f)
    have HE := Lib.hid (entM_p c r h34)
    rw [HE.out]
    clear h34 HE hE h
    cases hcol : colon (c :: r) with
    | none =>
      rw [cut_none _ hcol] at HC
      dsimp only
      refine Calls.mono (R := fun e w' => e = .returned (.tuple #[entZ, .bool false]) ∧ Fresh w w') ?_ (fun e w' k => ⟨fun h => absurd rfl h, fun _ => k.1, k.2⟩)
      clear hcol ht hne hl
      generalize tx (Lib.cut (c :: r ++ [32]) [58, 32]).1 = s3 at *
      generalize tx (Lib.cut (c :: r ++ [32]) [58, 32]).2.1 = s4 at *
      generalize tx (c :: r ++ [32]) = s2 at *
      generalize tx (c :: r) = s at *
      go_enter Tryz.func84, Tryz.ntmps84
      go_wp2_with fail
      generalize w.alloc (.cells #[.string ⟨#[]⟩, .bool false, .string ⟨#[]⟩] 138 (0, 0)) = w0 at *
      generalize hsz : w.heap.size = sz at *
      have HSZ := Lib.hid hsz
      clear hsz
      refine (HC.out _ HF0.out).mono ?_
      rintro e w1 ⟨rfl, hf⟩
      obtain ⟨c0, c1, c2, f0, f1, f2, lt⟩ := (HB.out.move hf).facts
      have HF := Lib.hid hf
      clear hf
      go_wp2
      refine bodyPost_ret (v := .tuple #[entZ, .bool false]) (by simp [results, Tryz.results84, go_sem, *]) rfl ⟨rfl, ?_⟩
      exact set3_fresh HF0.out HF.out (Nat.le_of_eq HSZ.out) _ _ _
    | some i =>
      obtain ⟨hi, hend⟩ := colon_some _ _ hcol
      have hr : Trimmed ((c :: r).drop (i + 1)) := ht.drop _
      have HT : Hid (∀ W : World, Calls Tryz.prog 115 #[.string (tx (((c :: r).drop (i + 1) ++ [32]).drop 1)), .string ⟨#[32]⟩] W fun e w' => e = .returned (.string (tx (lead ((c :: r).drop (i + 1))))) ∧ Fresh W w') := fun W => by
        have := trimS_any (((c :: r).drop (i + 1) ++ [32]).drop 1) W (by simp at hl ⊢; omega)
        rw [trim_behind _ hend hr] at this
        exact this
      rw [cut_some _ _ hcol] at HC
      dsimp only at HC ⊢
      refine Calls.mono (R := fun e w' => e = .returned (.tuple #[.agg #[.string (tx ((c :: r).take i)), .bool false, .string (tx (lead ((c :: r).drop (i + 1))))], .bool true]) ∧ Fresh w w') ?_ (fun e w' k => ⟨fun h => absurd rfl h, fun _ => k.1, k.2⟩)
      clear hr hend hi hcol ht hne hl
      generalize tx (((c :: r).drop (i + 1) ++ [32]).drop 1) = s3 at *
      generalize tx (lead ((c :: r).drop (i + 1))) = s4 at *
      generalize tx ((c :: r).take i) = s5 at *
      generalize tx (c :: r ++ [32]) = s2 at *
      generalize tx (c :: r) = s at *
      go_enter Tryz.func84, Tryz.ntmps84
      go_wp2_with fail
      generalize w.alloc (.cells #[.string ⟨#[]⟩, .bool false, .string ⟨#[]⟩] 138 (0, 0)) = w0 at *
      generalize hsz : w.heap.size = sz at *
      have HSZ := Lib.hid hsz
      clear hsz
      refine (HC.out _ HF0.out).mono ?_
      rintro e w1 ⟨rfl, hf⟩
      have HF1 := Lib.hid hf
      clear hf
      go_wp2_with fail
      refine (HT.out _).mono ?_
      rintro e w2 ⟨rfl, hf⟩
      obtain ⟨c0, c1, c2, f0, f1, f2, lt⟩ := ((HB.out.move HF1.out).move hf).facts
      have HF2 := Lib.hid (HF1.out.trans hf)
      clear hf
      go_wp2
      refine bodyPost_ret (v := .tuple #[.agg #[.string s5, .bool false, .string s4], .bool true]) (by simp [results, Tryz.results84, go_sem, *]) rfl ⟨rfl, ?_⟩
      exact set3_fresh HF0.out HF2.out (Nat.le_of_eq HSZ.out) _ _ _
end y
namespace v
section
variable {P : Program} {ops : Array Oper} {Q : Exit → Act → World → Prop} {md : Region.Mode} {S : World → Prop} {tail : Nat → Bool}
def Any2 (P : Program) (md : Region.Mode) (ops : Array Oper) (Q : Exit → Act → World → Prop) (S : World → Prop) (tail : Nat → Bool) : Nat → Array Bool → Act → World → Prop
  | 0, done, a, w => Region.ready md ops done = [] ∧ Q .normal a w
  | f + 1, done, a, w => (Region.ready md ops done = [] → Q .normal a w) ∧
      ∀ k, k ∈ Region.ready md ops done → wpOp P ops Q k (fun b u => (tail k = false → S u) ∧ Any2 P md ops Q S tail f (done.setIfInBounds k true) b u) a w
theorem Any2.any : ∀ (f : Nat) (done : Array Bool) (a : Act) (w : World), Any2 P md ops Q S tail f done a w → wpAny P md ops Q f done a w
  | 0, _, _, _, h => h
  | f + 1, _, _, _, ⟨h0, h1⟩ => ⟨h0, fun k hk => wpOp_mono (fun b u h => Any2.any f _ b u h.2) (h1 k hk)⟩
theorem Any2.start {id : Nat} {a : Act} {w : World} (hm : P.follows .mixedOrders = true) (h : Any2 P .any ops Q S tail ops.size (Array.replicate ops.size false) a w.drew) : (Code.region id ops true).wp P Q a w :=
  wp_region_any hm (Any2.any _ _ _ _ h)
def Closed (md : Region.Mode) (ops : Array Oper) (done : Array Bool) : Prop := ∀ k o, ops[k]? = some o → done.getD k false = true → ∀ e ∈ o.after, Region.binds md e = true → done.getD e.on false = true
def closedB (md : Region.Mode) (ops : Array Oper) (done : Array Bool) : Bool :=
  (List.range ops.size).all fun k => !done.getD k false || ((ops[k]?).map fun o => o.after.all fun e => !Region.binds md e || done.getD e.on false).getD true
theorem closed_of {done : Array Bool} (h : closedB md ops done = true) : Closed md ops done := by
  intro k o hk hd e he hb
  have hlt : k < ops.size := (Array.getElem?_eq_some_iff.1 hk).1
  have h1 := List.all_eq_true.1 h k (List.mem_range.2 hlt)
  rw [hd, hk] at h1
  simp only [Bool.not_true, Bool.false_or, Option.map_some, Option.getD_some] at h1
  have h2 := (Array.all_eq_true_iff_forall_mem.1 h1) e he
  rw [hb] at h2
  simpa using h2
theorem Closed.set {done : Array Bool} {j : Nat} (h : Closed md ops done) (hj : j ∈ Region.ready md ops done) : Closed md ops (done.setIfInBounds j true) := by
  obtain ⟨_, oj, hoj, hall⟩ := mem_ready.1 hj
  intro k o hk hd e he hb
  by_cases hkj : j = k
  · subst hkj
    rw [hoj] at hk
    cases hk
    exact getD_set_true (hall e he hb)
  · rw [getD_set_ne false hkj] at hd
    exact getD_set_true (h k o hk hd e he hb)
def waits (md : Region.Mode) (ops : Array Oper) : Nat → Nat → Nat → Bool
  | 0, _, _ => false
  | n + 1, j, k => ((ops[j]?).map fun o => o.after.any fun e => Region.binds md e && (e.on == k || waits md ops n e.on k)).getD false
theorem waits_spec {k : Nat} {done : Array Bool} (hc : Closed md ops done) : ∀ (n j : Nat) (oj : Oper), waits md ops n j k = true → ops[j]? = some oj → (∀ e ∈ oj.after, Region.binds md e = true → done.getD e.on false = true) → done.getD k false = true
  | 0, _, _, h, _, _ => by cases h
  | n + 1, j, oj, h, hj, hall => by
    rw [waits, hj] at h
    simp only [Option.map_some, Option.getD_some] at h
    obtain ⟨e, he, hb⟩ := Array.any_eq_true'.1 h
    rw [Bool.and_eq_true, Bool.or_eq_true, beq_iff_eq] at hb
    have h2 := hall e he hb.1
    rcases hb.2 with h3 | h3
    · rw [← h3]; exact h2
    · cases hp : ops[e.on]? with
      | none =>
        cases n with
        | zero => cases h3
        | succ n => rw [waits, hp] at h3; cases h3
      | some p => exact waits_spec hc n e.on p h3 hp (fun e2 he2 hb2 => hc e.on p hp h2 e2 he2 hb2)
def behind (md : Region.Mode) (ops : Array Oper) (tail : Nat → Bool) (k : Nat) : Bool :=
  (List.range ops.size).all fun j => !tail j || waits md ops 6 j k
theorem behind_spec {k j : Nat} {oj : Oper} {done : Array Bool} (h : behind md ops tail k = true) (hc : Closed md ops done) (hj : ops[j]? = some oj) (ht : tail j = true) (hall : ∀ e ∈ oj.after, Region.binds md e = true → done.getD e.on false = true) : done.getD k false = true := by
  have hlt : j < ops.size := (Array.getElem?_eq_some_iff.1 hj).1
  have h1 := List.all_eq_true.1 h j (List.mem_range.2 hlt)
  rw [ht] at h1
  exact waits_spec hc 6 j oj (by simpa using h1) hj hall
theorem Any2.first {i : Nat} {oi : Oper} {v : Value} (hi : ops[i]? = some oi) (hsel : ∀ (j : Nat) (o : Oper) cs b, ops[j]? = some o → o.op ≠ .select cs b)
    (hQ : ∀ c a w, Q (.panic c) (a.put oi.dst v) w → Q (.panic c) a w) (ht : tail i = false) (hb : behind md ops tail i = true) :
    ∀ (f : Nat) (done : Array Bool) (a : Act) (w : World),
      (∀ j oj, ops[j]? = some oj → j ≠ i → done.getD j true = false → (∀ e ∈ oj.after, Region.binds md e = true → e.on ≠ i) → oi.apart ops oj = true) →
      Closed md ops done → i ∈ Region.ready md ops done → YieldsIf P ops S oi v a → S w →
      Any2 P md ops Q S tail f (done.setIfInBounds i true) (a.put oi.dst v) w → Any2 P md ops Q S tail (f + 1) done a w := by
  intro f
  induction f with
  | zero =>
    intro done a w _ _ hr hy hS H
    refine ⟨fun h => absurd hr (by rw [h]; exact List.not_mem_nil), fun j hj => ?_⟩
    by_cases e : j = i
    · subst e; exact hy.wpOp hi hS ⟨fun _ => hS, H⟩
    · have := ready_mono hj e
      rw [H.1] at this
      cases this
  | succ f ih =>
    intro done a w hfree hcl hr hy hS H
    refine ⟨fun h => absurd hr (by rw [h]; exact List.not_mem_nil), fun j hj => ?_⟩
    by_cases e : j = i
    · subst e; exact hy.wpOp hi hS ⟨fun _ => hS, H⟩
    obtain ⟨hjun, oj, hoj, hall⟩ := mem_ready.1 hj
    have hi0 := (mem_ready.1 hr).1
    have hnot : ∀ e ∈ oj.after, Region.binds md e = true → e.on ≠ i := fun e he hbe heq => by
      have h1 := hall e he hbe
      rw [heq] at h1
      rcases Nat.lt_or_ge i done.size with h2 | h2
      · simp [h2] at hi0 h1; rw [hi0] at h1; cases h1
      · simp [Array.getElem?_eq_none h2] at h1
    have htj : tail j = false := by
      cases htj : tail j with
      | false => rfl
      | true =>
        have h1 := behind_spec hb hcl hoj htj hall
        rcases Nat.lt_or_ge i done.size with h2 | h2
        · simp [h2] at hi0 h1; rw [hi0] at h1; cases h1
        · simp [Array.getElem?_eq_none h2] at h1
    have h2 := wpOp_putIf hoj (hfree j oj hoj e hjun hnot) (fun cs b => hsel i oi cs b hi) (fun cs b => hsel j oj cs b hoj) hQ hy (H.2 j (ready_mono hj e))
    have hfree' : ∀ k ok, ops[k]? = some ok → k ≠ i → (done.setIfInBounds j true).getD k true = false → (∀ e ∈ ok.after, Region.binds md e = true → e.on ≠ i) → oi.apart ops ok = true := fun k ok hk hki hun hno => by
      refine hfree k ok hk hki ?_ hno
      by_cases hjk : j = k
      · subst hjk; exact hjun
      · rw [getD_set_ne true hjk] at hun; exact hun
    refine wpOp_mono (fun b u h3 => ?_) h2
    obtain ⟨hy', hS', h4⟩ := h3
    refine ⟨hS', ih (done.setIfInBounds j true) b u hfree' (hcl.set hj) (ready_mono hr (Ne.symm e)) hy' (hS' htj) ?_⟩
    rw [Array.setIfInBounds_comm _ _ e]
    exact h4
theorem Any2.take {i : Nat} {oi : Oper} {v : Value} {f : Nat} {done : Array Bool} {a : Act} {w : World} (hi : ops[i]? = some oi) (hs : Region.noSelect ops = true) (hf : Region.free md ops done i = true) (hr : (Region.ready md ops done).contains i = true)
    (ht : tail i = false) (hb : behind md ops tail i = true) (hcl : closedB md ops done = true) (hQ : ∀ c a w, Q (.panic c) (a.put oi.dst v) w → Q (.panic c) a w) (hS : S w) (hy : YieldsIf P ops S oi v a)
    (h : Any2 P md ops Q S tail f (done.setIfInBounds i true) (a.put oi.dst v) w) : Any2 P md ops Q S tail (f + 1) done a w :=
  Any2.first hi (Region.noSelect_spec hs) hQ ht hb f done a w (Region.free_spec hi hf) (closed_of hcl) (by simpa using hr) hy hS h
theorem Any2.one {i : Nat} {f : Nat} {done : Array Bool} {a : Act} {w : World} (hr : Region.ready md ops done = [i])
    (h : wpOp P ops Q i (fun b u => (tail i = false → S u) ∧ Any2 P md ops Q S tail f (done.setIfInBounds i true) b u) a w) : Any2 P md ops Q S tail (f + 1) done a w := by
  refine ⟨(fun e => by rw [hr] at e; cases e), fun k hk => ?_⟩
  rw [hr] at hk
  obtain rfl := List.mem_singleton.1 hk
  exact h
theorem Any2.end {f : Nat} {done : Array Bool} {a : Act} {w : World} (hr : Region.ready md ops done = []) (h : Q .normal a w) : Any2 P md ops Q S tail f done a w := by
  cases f with
  | zero => exact ⟨hr, h⟩
  | succ f => exact ⟨fun _ => h, fun k hk => by rw [hr] at hk; cases hk⟩
theorem wpOp_of {i : Nat} {o : Oper} {K : Act → World → Prop} {a : Act} {w : World} (hi : ops[i]? = some o) (hg : o.guard = none) (h : o.wp P a w K Q) : wpOp P ops Q i K a w := by
  unfold wpOp
  simp only [hi]
  rw [if_pos (by simp [Region.wanted, hg])]
  exact .inl h
def gridB (md : Region.Mode) (ops : Array Oper) (x y : Nat → Nat) (m n : Nat) (D : Nat → Nat → Array Bool) : Bool :=
  (List.range (m + 1)).all fun i => (List.range (n + 1)).all fun j => (i == m && j == n) || (!(Region.ready md ops (D i j)).isEmpty && (Region.ready md ops (D i j)).all fun k =>
    (decide (i < m) && k == x i && (D i j).setIfInBounds k true == D (i + 1) j) || (decide (j < n) && k == y j && (D i j).setIfInBounds k true == D i (j + 1)))
theorem ev_same {a : Act} {d : Nat} {v : Value} (h : d < a.tmps.size) : (a.put (some d) v).eval (.tmp d) = v := by
  simp [Act.put, Act.eval, h]
theorem ev_ne {a : Act} {d t : Nat} {v : Value} (h : d ≠ t) : (a.put (some d) v).eval (.tmp t) = a.eval (.tmp t) := by
  simp [Act.put, Act.eval, Array.getD_eq_getD_getElem?, h]
theorem put_size {a : Act} {d : Option Nat} {v : Value} : (a.put d v).tmps.size = a.tmps.size := by
  cases d <;> simp [Act.put]
end
end v
namespace v
open Go.ChangeShapes Go.WideShapes Go.ChangeAt Go.RowKit
variable {Q : Exit → Act → World → Prop}
theorem own_block {a : Option Addr} {n c k : Nat} (h : (Value.slice a n c).ownBlock = some k) : ∃ ad : Addr, a = some ad ∧ ad.block = k := by
  cases a with
  | none => cases h
  | some ad => exact ⟨ad, rfl, by simpa [Value.ownBlock] using h⟩
theorem own_type {w : World} {B : Nat} {t : TypeId} {k n m c : Nat} {a : Option Addr} {xs : List Value} (h : w.ownsRow B t k (.slice a m c) n xs) : ∀ ad : Addr, a = some ad → B ≤ ad.block ∧ ad.block < w.heap.size ∧ ∃ cur, w.heap[ad.block]? = some (.cells cur t (0, 0)) := by
  intro ad e
  subst e
  have hlt := h.lt ad.block rfl
  rcases h.2 with ⟨e, _⟩ | ⟨g, cap, cur, e, _, hh, _⟩
  · cases e
  · cases e
    exact ⟨hlt.1, hlt.2, cur, hh⟩
theorem kept_row {w w' : World} {B : Nat} {t : TypeId} {k n m c : Nat} {a : Option Addr} {xs : List Value} {r : Option Nat} (h : w.ownsRow B t k (.slice a m c) n xs) (g : w.grownBy w' r) (hne : ∀ ad : Addr, a = some ad → some ad.block ≠ r) : w'.ownsRow B t k (.slice a m c) n xs :=
  h.kept g (by
    cases a with
    | none => exact .inl rfl
    | some ad => exact .inr (hne ad rfl))
theorem grown_at {W w' : World} {a : Option Addr} {n c b : Nat} {o : Obj} (hg : W.grownBy w' (Value.slice a n c).ownBlock) (hb : W.heap[b]? = some o) (hne : ∀ ad : Addr, a = some ad → ad.block ≠ b) : w'.heap[b]? = some o :=
  (hg.block b (lt_of_at hb) (fun e => by
    obtain ⟨ad, e1, e2⟩ := own_block e.symm
    exact hne ad e1 e2)).trans hb
theorem RowAt.cells {w w' : World} {a : Option Addr} {cs : List Value} (h : RowAt w a cs) (hc : ∀ g j x, w.cell? ⟨g, j, Option.none⟩ = some x → w'.cell? ⟨g, j, Option.none⟩ = some x) : RowAt w' a cs := by
  rcases h with h | ⟨g, e, h⟩
  · exact .inl h
  · exact .inr ⟨g, e, fun j x hj => hc g j x (h j x hj)⟩
theorem M.At.cells {w w' : World} {m : M} (h : m.At w) (hc : ∀ g j x, w.cell? ⟨g, j, none⟩ = some x → w'.cell? ⟨g, j, none⟩ = some x) : m.At w' := by
  induction h with
  | mk hs hl hk ll lk hn ml mk ihl ihk => exact .mk hs (hl.cells hc) (hk.cells hc) ll lk hn ihl ihk
theorem box_frozen {w : World} {b : Nat} {c0 c1 c2 c3 c4 c5 : Value} {T : TypeId} (h : w.heap[b]? = some (.cells #[c0, c1, c2, c3, c4, c5] T (0, 0))) : w.frozen? ⟨b, 4, none⟩ = false ∧ w.frozen? ⟨b, 5, none⟩ = false := by
  simp [World.frozen?, h]
theorem wpOp_run {P : Program} {ops : Array Oper} {i : Nat} {o : Oper} {K : Act → World → Prop} {b : Act} {w w' : World} {v : Value} (hi : ops[i]? = some o) (hg : o.guard = none) (hr : (execOp b.eval o).run P w = .ok (.value v) w') (h : K (b.put o.dst v) w') : wpOp P ops Q i K b w := by
  refine wpOp_of hi hg ?_
  unfold Oper.wp
  rw [hr]
  exact h
theorem ev_get {a : Act} {t : Nat} {v : Value} (h : a.eval (.tmp t) = v) : a.tmps[t]?.getD undef = v := by
  rw [← h]; simp [Act.eval]
theorem type_ne {w : World} {b b' : Nat} {cs ds : Array Value} {t t' : TypeId} (h : w.heap[b]? = some (.cells cs t (0, 0))) (h' : w.heap[b']? = some (.cells ds t' (0, 0))) (hn : t ≠ t') : b ≠ b' := by
  intro e
  rw [e, h'] at h
  injection h with h
  injection h with _ h _
  exact hn h.symm
theorem kept_other {w w' : World} {B : Nat} {t t' : TypeId} {k n m c b : Nat} {a : Option Addr} {xs : List Value} {cs : Array Value} (h : w.ownsRow B t k (.slice a m c) n xs) (hg : w.grownBy w' (Value.slice a m c).ownBlock) (hb : w.heap[b]? = some (.cells cs t' (0, 0))) (ht : t ≠ t') : w'.heap[b]? = some (.cells cs t' (0, 0)) :=
  grown_at hg hb (fun ad e => by obtain ⟨_, _, cur, h3⟩ := own_type h ad e; exact type_ne h3 hb ht)
theorem wpOp_skip {P : Program} {ops : Array Oper} {i : Nat} {o : Oper} {K : Act → World → Prop} {b : Act} {w w' : World} (hi : ops[i]? = some o) (hg : o.guard = none) (hd : o.dst = none) (hr : (execOp b.eval o).run P w = .ok .skip w') (h : K b w') : wpOp P ops Q i K b w := by
  refine wpOp_of hi hg ?_
  unfold Oper.wp
  rw [hr, Oper.upon_skip, hd]
  exact h
theorem info54 : (Tryz.prog.info? 54).map (fun i => (i.zero.map (fun z => z.cells.size), i.size, i.bytes)) = some (some 7, 7, 104) := by kernel_rfl
theorem info56 : (Tryz.prog.info? 69).map (fun i => (i.zero.map (fun z => z.cells.size), i.size, i.bytes)) = some (some 7, 7, 104) := by kernel_rfl
theorem info_seven {T : TypeId} (h : (Tryz.prog.info? T).map (fun i => (i.zero.map (fun z => z.cells.size), i.size, i.bytes)) = some (some 7, 7, 104)) : ∃ (i : TypeInfo) (z : Value), Tryz.prog.info? T = some i ∧ i.zero = some z ∧ z.cells.size = 7 ∧ i.size = 7 ∧ i.bytes = 104 := by
  obtain ⟨i, hi, hz⟩ := Option.map_eq_some_iff.1 h
  simp only [Prod.mk.injEq] at hz
  obtain ⟨h1, h2, h3⟩ := hz
  obtain ⟨z, hz1, hz2⟩ := Option.map_eq_some_iff.1 h1
  exact ⟨i, z, hi, hz1, hz2, h2, h3⟩
end v
namespace v
open Go.ChangeShapes Go.WideShapes Go.ChangeAt Go.RowKit
def Wo (p : Nat → Bool) (w : World) : World := { w with heap := w.heap.mapIdx fun i o => if p i = true then .cells #[] 27 (0, 0) else o }
theorem wo_heap {p : Nat → Bool} {k : Nat} (w : World) (h : p k = false) : (Wo p w).heap[k]? = w.heap[k]? := by
  simp only [Wo, Array.getElem?_mapIdx, h]
  cases w.heap[k]? <;> rfl
theorem wo_none {p : Nat → Bool} {b i : Nat} (w : World) (h : p b = true) (v : Value) : ¬ (Wo p w).cell? ⟨b, i, none⟩ = some v := by
  intro e
  unfold World.cell? at e
  have hb : (Wo p w).heap[b]? = none ∨ (Wo p w).heap[b]? = some (.cells #[] 27 (0, 0)) := by
    simp only [Wo, Array.getElem?_mapIdx, h]
    cases w.heap[b]? with
    | none => exact .inl rfl
    | some o => exact .inr rfl
  rcases hb with hb | hb
  · simp [hb] at e
  · simp [hb] at e
theorem wo_cell {p : Nat → Bool} {b i : Nat} {w : World} {v : Value} (h : (Wo p w).cell? ⟨b, i, none⟩ = some v) : p b = false ∧ w.cell? ⟨b, i, none⟩ = some v := by
  have h1 : p b = false := by
    cases hp : p b with
    | false => rfl
    | true => exact absurd h (wo_none w hp v)
  refine ⟨h1, ?_⟩
  rw [← h]
  exact (World.cell?_of_block (a := ⟨b, i, none⟩) (wo_heap w h1)).symm
theorem wo_up {p : Nat → Bool} {b i : Nat} {w : World} {v : Value} (hp : p b = false) (h : w.cell? ⟨b, i, none⟩ = some v) : (Wo p w).cell? ⟨b, i, none⟩ = some v := by
  rw [World.cell?_of_block (a := ⟨b, i, none⟩) (wo_heap w hp)]; exact h
theorem cell_lt {w : World} {b i : Nat} {v : Value} (h : w.cell? ⟨b, i, none⟩ = some v) : b < w.heap.size := World.block_lt_of_cell? w ⟨b, i, none⟩ h
def M.New (N : Nat) (w : World) (m : M) : Prop := m.At (Wo (fun k => decide (k < N)) w)
def M.Off (B : Nat) (g : Option Nat) (w : World) (m : M) : Prop := m.At (Wo (fun k => decide (k ≤ B ∨ some k = g)) w)
theorem M.New.at {N : Nat} {w : World} {m : M} (h : m.New N w) : m.At w := h.cells fun _ _ _ e => (wo_cell e).2
theorem M.Off.at {B : Nat} {g : Option Nat} {w : World} {m : M} (h : m.Off B g w) : m.At w := h.cells fun _ _ _ e => (wo_cell e).2
theorem M.New.move {N : Nat} {w w' : World} {m : M} (h : m.New N w) (f : Fresh w w') : m.New N w' := h.cells fun g j x e => by
  obtain ⟨h1, h2⟩ := wo_cell e
  exact wo_up h1 (f.cell h2)
theorem M.New.mono {N N' : Nat} {w : World} {m : M} (h : m.New N w) (hN : N' ≤ N) : m.New N' w := h.cells fun g j x e => by
  obtain ⟨h1, h2⟩ := wo_cell e
  exact wo_up (by simp at h1 ⊢; omega) h2
theorem M.Off.move {B : Nat} {g : Option Nat} {w w' : World} {m : M} (h : m.Off B g w) (f : Fresh w w') : m.Off B g w' := h.cells fun gg j x e => by
  obtain ⟨h1, h2⟩ := wo_cell e
  exact wo_up h1 (f.cell h2)
theorem M.New.off {N B : Nat} {w : World} {m : M} (h : m.New N w) {g : Option Nat} (hB : B < N) (hg : ∀ k, g = some k → k < N) : m.Off B g w := h.cells fun gg j x e => by
  obtain ⟨h1, h2⟩ := wo_cell e
  refine wo_up ?_ h2
  rw [decide_eq_false_iff_not]
  simp at h1
  rintro (e2 | e2)
  · omega
  · have := hg gg e2.symm
    omega
theorem M.Off.grown {B : Nat} {r : Option Nat} {g : Nat} {w w' : World} {m : M} (h : m.Off B r w) (hg : w.grownBy w' r) (hat : r = some g ∨ g = w.heap.size) : m.Off B (some g) w' := h.cells fun gg j x e => by
  obtain ⟨h1, h2⟩ := wo_cell e
  have hlt := cell_lt h2
  rw [decide_eq_false_iff_not] at h1
  have hB : ¬ gg ≤ B := fun e => h1 (.inl e)
  have hr : ¬ some gg = r := fun e => h1 (.inr e)
  refine wo_up ?_ (by rw [World.cell?_of_block (a := ⟨gg, j, none⟩) (hg.block gg hlt hr)]; exact h2)
  rw [decide_eq_false_iff_not]
  rintro (e2 | e2)
  · exact hB e2
  · rcases hat with e3 | e3
    · rw [e3] at hr; exact hr e2
    · injection e2 with e2; omega
theorem M.Off.set {B i : Nat} {r : Option Nat} {w : World} {m : M} {v : Value} (h : m.Off B r w) : m.Off B r (w.setCell ⟨B, i, none⟩ v) := h.cells fun gg j x e => by
  obtain ⟨h1, h2⟩ := wo_cell e
  refine wo_up h1 ?_
  rw [decide_eq_false_iff_not] at h1
  rw [World.cell?_of_block (a := ⟨gg, j, none⟩) (Below.heap_setCell w ⟨B, i, none⟩ v gg (fun e => h1 (.inl (Nat.le_of_eq e))))]
  exact h2
theorem M.Off.new {B N : Nat} {g : Option Nat} {w : World} {m : M} (h : m.Off B g w) (hN : N ≤ B + 1) : m.New N w := h.cells fun gg j x e => by
  obtain ⟨h1, h2⟩ := wo_cell e
  rw [decide_eq_false_iff_not] at h1
  exact wo_up (by rw [decide_eq_false_iff_not]; intro h3; exact h1 (.inl (by omega))) h2
theorem row_new {N : Nat} {w : World} {a : Option Addr} {cs : List Value} (h : RowAt w a cs) (hN : ∀ ad, a = some ad → N ≤ ad.block) : RowAt (Wo (fun k => decide (k < N)) w) a cs := by
  rcases h with h | ⟨g, e, h⟩
  · exact .inl h
  · refine .inr ⟨g, e, fun j x hj => wo_up ?_ (h j x hj)⟩
    have := hN _ e
    simp at this ⊢
    omega
theorem M.New.set {N b i : Nat} {w : World} {m : M} {v : Value} (h : m.New N w) (hb : b < N) : m.New N (w.setCell ⟨b, i, none⟩ v) := h.cells fun gg j x e => by
  obtain ⟨h1, h2⟩ := wo_cell e
  refine wo_up h1 ?_
  simp at h1
  rw [World.cell?_of_block (a := ⟨gg, j, none⟩) (Below.heap_setCell w ⟨b, i, none⟩ v gg (fun e => by dsimp only at e; omega))]
  exact h2
end v
namespace v
open Go.ChangeShapes Go.WideShapes Go.ChangeAt Go.RowKit
attribute [local go_sem ↓] Go.wp_at_zero Go.wp_at_succ
theorem info33s : (Tryz.prog.info? 36).map (fun i => (i.zero.map (fun z => z.cells.size), i.size, i.bytes)) = some (some 6, 6, 88) := by kernel_rfl
theorem info_six {T : TypeId} (h : (Tryz.prog.info? T).map (fun i => (i.zero.map (fun z => z.cells.size), i.size, i.bytes)) = some (some 6, 6, 88)) : ∃ (i : TypeInfo) (z : Value), Tryz.prog.info? T = some i ∧ i.zero = some z ∧ z.cells.size = 6 ∧ i.size = 6 ∧ i.bytes = 88 := by
  obtain ⟨i, hi, hz⟩ := Option.map_eq_some_iff.1 h
  simp only [Prod.mk.injEq] at hz
  obtain ⟨h1, h2, h3⟩ := hz
  obtain ⟨z, hz1, hz2⟩ := Option.map_eq_some_iff.1 h1
  exact ⟨i, z, hi, hz1, hz2, h2, h3⟩
def OfSays (m : M) : Prop := ∀ w, m.At w → Calls Tryz.prog 10 #[m.val] w fun e w' => (∃ z : M, e = .returned z.val ∧ z.New w.heap.size w' ∧ z.plain = m.plain) ∧ Fresh w w'
theorem wpOp_call2 {P : Program} {Q : Exit → Act → World → Prop} {ops : Array Oper} {i : Nat} {o : Oper} {K : Act → World → Prop} {b : Act} {w : World} {f : FuncId} {args : Array Value} (hi : ops[i]? = some o) (hg : o.guard = none) (hr : (execOp b.eval o).run P w = .ok (.enter f args) w)
    {R : Ending → World → Prop} (hc : Calls P f args w R) (h : ∀ e w', R e w' → ∃ v, e = .returned v ∧ K (b.put o.dst v) w') : wpOp P ops Q i K b w := by
  refine wpOp_of hi hg ?_
  unfold Oper.wp
  rw [hr, Oper.upon_enter]
  refine hc.mono ?_
  intro e w' he
  obtain ⟨v, rfl, hk⟩ := h e w' he
  exact hk
def opsOfL : Array Oper := #[{ dst := some 24, op := .fieldAddr 36 (.tmp 3) 4, type := 0, pos := "law.go:56", after := #[], guard := none }, { dst := some 25, op := .load 33 (.tmp 24), type := 33, pos := "law.go:56", after := #[{ on := 0, ground := .data }], guard := none }, { dst := some 26, op := .load 27 (.tmp 5), type := 27, pos := "law.go:56", after := #[], guard := none }, { dst := some 27, op := .call { callee := .value (.func 10), args := #[.tmp 26], argTypes := #[27] }, type := 36, pos := "law.go:56", after := #[{ on := 2, ground := .data }], guard := none }, { dst := some 28, op := .buildSlice 33 1 #[(0, .tmp 27)], type := 33, pos := "law.go:56", after := #[{ on := 3, ground := .data }], guard := none }, { dst := some 29, op := .call { callee := .builtin .append, args := #[.tmp 25, .tmp 28], argTypes := #[33, 33] }, type := 33, pos := "law.go:56", after := #[{ on := 1, ground := .data }, { on := 4, ground := .data }, { on := 3, ground := .chain }], guard := none }, { dst := some 30, op := .fieldAddr 36 (.tmp 3) 4, type := 0, pos := "law.go:56", after := #[{ on := 0, ground := .phase }, { on := 1, ground := .phase }, { on := 2, ground := .phase }, { on := 3, ground := .phase }, { on := 4, ground := .phase }, { on := 5, ground := .phase }], guard := none }, { dst := none, op := .store 33 (.tmp 30) (.tmp 29), type := 0, pos := "law.go:56", after := #[{ on := 6, ground := .data }, { on := 5, ground := .data }, { on := 5, ground := .chain }, { on := 0, ground := .phase }, { on := 1, ground := .phase }, { on := 2, ground := .phase }, { on := 3, ground := .phase }, { on := 4, ground := .phase }, { on := 5, ground := .phase }], guard := none }]
def oOfL_0 : Oper := { dst := some 24, op := .fieldAddr 36 (.tmp 3) 4, type := 0, pos := "law.go:56", after := #[], guard := none }
def oOfL_1 : Oper := { dst := some 25, op := .load 33 (.tmp 24), type := 33, pos := "law.go:56", after := #[{ on := 0, ground := .data }], guard := none }
def oOfL_2 : Oper := { dst := some 26, op := .load 27 (.tmp 5), type := 27, pos := "law.go:56", after := #[], guard := none }
def oOfL_3 : Oper := { dst := some 27, op := .call { callee := .value (.func 10), args := #[.tmp 26], argTypes := #[27] }, type := 36, pos := "law.go:56", after := #[{ on := 2, ground := .data }], guard := none }
def oOfL_4 : Oper := { dst := some 28, op := .buildSlice 33 1 #[(0, .tmp 27)], type := 33, pos := "law.go:56", after := #[{ on := 3, ground := .data }], guard := none }
def oOfL_5 : Oper := { dst := some 29, op := .call { callee := .builtin .append, args := #[.tmp 25, .tmp 28], argTypes := #[33, 33] }, type := 33, pos := "law.go:56", after := #[{ on := 1, ground := .data }, { on := 4, ground := .data }, { on := 3, ground := .chain }], guard := none }
def oOfL_6 : Oper := { dst := some 30, op := .fieldAddr 36 (.tmp 3) 4, type := 0, pos := "law.go:56", after := #[{ on := 0, ground := .phase }, { on := 1, ground := .phase }, { on := 2, ground := .phase }, { on := 3, ground := .phase }, { on := 4, ground := .phase }, { on := 5, ground := .phase }], guard := none }
def oOfL_7 : Oper := { dst := none, op := .store 33 (.tmp 30) (.tmp 29), type := 0, pos := "law.go:56", after := #[{ on := 6, ground := .data }, { on := 5, ground := .data }, { on := 5, ground := .chain }, { on := 0, ground := .phase }, { on := 1, ground := .phase }, { on := 2, ground := .phase }, { on := 3, ground := .phase }, { on := 4, ground := .phase }, { on := 5, ground := .phase }], guard := none }
def tailOfL (k : Nat) : Bool := k == 6 || k == 7
structure LxIs (w0 w : World) (B N : Nat) (k : Int) (f : Bool) (nn : Int) (s : ByteArray) (j : Nat) (la : Option Addr) (lc : Nat) (xs : List (M)) : Prop where
  low : B < N
  bx : w.heap[B]? = some (.cells #[.int .i64 k, .bool f, .int .i64 nn, .string s, .slice la j lc, .slice none 0 0] 36 (0, 0))
  rx : w.ownsRow N 36 6 (.slice la j lc) j (mcells xs)
  ax : ∀ x ∈ xs, x.Off B (Value.slice la j lc).ownBlock w
  le : N ≤ w.heap.size
  base : w0.heap.size ≤ B
  fresh : Fresh w0 w
theorem LxIs.move {w0 w w' : World} {B N : Nat} {k : Int} {f : Bool} {nn : Int} {s : ByteArray} {j : Nat} {la : Option Addr} {lc : Nat} {xs : List (M)} (h : LxIs w0 w B N k f nn s j la lc xs) (g : Fresh w w') : LxIs w0 w' B N k f nn s j la lc xs :=
  ⟨h.low, g.at h.bx, owns_move h.rx g, fun x hx => (h.ax x hx).move g, Nat.le_trans h.le g.size, h.base, h.fresh.trans g⟩
structure Lx where
  w0 : World
  B : Nat
  N : Nat
  b : Nat
  k : Int
  f : Bool
  nn : Int
  s : ByteArray
  yk : Int
  yf : Bool
  yn : Int
  ys : ByteArray
  yla : Option Addr
  yln : Nat
  ylc : Nat
  yka : Option Addr
  ykn : Nat
  ykc : Nat
  y : M
  la : Option Addr
  j : Nat
  lc : Nat
  xs : List (M)
def Lx.cs (c : Lx) : Array Value := #[.int .i64 c.yk, .bool c.yf, .int .i64 c.yn, .string c.ys, .slice c.yla c.yln c.ylc, .slice c.yka c.ykn c.ykc]
def Lx.S (c : Lx) (u : World) : Prop := u.cell? ⟨c.B, 4, none⟩ = some (.slice c.la c.j c.lc) ∧ u.cell? ⟨c.b, 0, none⟩ = some (.int .i64 c.yk) ∧ u.cell? ⟨c.b, 1, none⟩ = some (.bool c.yf) ∧ u.cell? ⟨c.b, 2, none⟩ = some (.int .i64 c.yn) ∧ u.cell? ⟨c.b, 3, none⟩ = some (.string c.ys) ∧ u.cell? ⟨c.b, 4, none⟩ = some (.slice c.yla c.yln c.ylc) ∧ u.cell? ⟨c.b, 5, none⟩ = some (.slice c.yka c.ykn c.ykc)
structure Lx.W (c : Lx) (u : World) : Prop where
  is : LxIs c.w0 u c.B c.N c.k c.f c.nn c.s c.j c.la c.lc c.xs
  bw : u.heap[c.b]? = some (.cells c.cs 27 (0, 0))
theorem Lx.W.move {c : Lx} {u u' : World} (h : c.W u) (g : Fresh u u') : c.W u' := ⟨h.is.move g, g.at h.bw⟩
theorem Lx.W.S {c : Lx} {u : World} (h : c.W u) : c.S u := ⟨cell_of_at h.is.bx rfl, cell_of_at h.bw rfl, cell_of_at h.bw rfl, cell_of_at h.bw rfl, cell_of_at h.bw rfl, cell_of_at h.bw rfl, cell_of_at h.bw rfl⟩
structure Lx.At (c : Lx) (a : Act) : Prop where
  size : a.tmps.size = 52
  e3 : a.eval (.tmp 3) = .pointer (some ⟨c.B, 0, none⟩)
  e25 : a.eval (.tmp 25) = .slice c.la c.j c.lc
  e26 : a.eval (.tmp 26) = .agg c.cs
def Lx.loaded (c : Lx) (a : Act) : Act := (((a.put (some 24) (.pointer (some ⟨c.B, 4, none⟩))).put (some 25) (.slice c.la c.j c.lc)).put (some 26) (.agg c.cs))
variable {c : Lx} {a : Act} {Q : Exit → Act → World → Prop}
theorem stepsOfL (ha : c.At a) (w : World) (hW : c.W w) (hv : c.y.val = .agg c.cs) (hy : c.y.At w) (ih : OfSays c.y) (hj : c.j ≤ 1000000)
    (hQ : ∀ (z : M) (zk : Int) (zf : Bool) (zn : Int) (zs : ByteArray) (zla : Option Addr) (zlc : Nat) (zl : List M) (zka : Option Addr) (zkc : Nat) (zks : List (ByteArray × M)) (k1 g cap : Nat) (u' : World), z = (M.mk zk zf zn zs zla zlc zl zka zkc zks) → z.plain = c.y.plain → LxIs c.w0 u' c.B c.N c.k c.f c.nn c.s (c.j + 1) (some ⟨g, 0, none⟩) cap (c.xs ++ [z]) → Q .normal ((((a.put (some 27) (.agg #[.int .i64 zk, .bool zf, .int .i64 zn, .string zs, .slice zla zl.length zlc, .slice zka zks.length zkc])).put (some 28) (.slice (some ⟨k1, 0, none⟩) 1 1)).put (some 29) (.slice (some ⟨g, 0, none⟩) (c.j + 1) cap)).put (some 30) (.pointer (some ⟨c.B, 4, none⟩))) u') :
    Any2 Tryz.prog .any opsOfL Q c.S tailOfL 5 #[true, true, true, false, false, false, false, false] a w := by
  obtain ⟨i0, z0, hi, hz0, hzc, hz1, hz2⟩ := info_six info33s
  have g1 := ev_get (t := 26) (a := a) (v := .agg c.cs) (ha.e26)
  have hr : ∀ b : Act, b.tmps[26]?.getD undef = .agg c.cs → (execOp b.eval oOfL_3).run Tryz.prog w = .ok (.enter 10 #[.agg c.cs]) w := fun b g1 => by
    simp [execOp, oOfL_3, g1, go_sem]
  have hc := ih w hy
  rw [hv] at hc
  refine Any2.one (i := 3) (by kernel_rfl) (wpOp_call2 (o := oOfL_3) (by rfl) rfl (hr _ g1) hc ?_)
  clear g1 hr hc
  rintro e w1 ⟨⟨z, rfl, hza, hzp⟩, hf⟩
  refine ⟨_, rfl, ?_⟩
  have hW1 := hW.move hf
  have hlaN : ∀ k, (Value.slice c.la c.j c.lc).ownBlock = some k → k < w.heap.size := fun k e => (World.ownsRow.lt hW.is.rx k e).2
  have hzo : M.Off c.B (Value.slice c.la c.j c.lc).ownBlock w1 z := hza.off (lt_of_at hW.is.bx) hlaN
  clear hf hza
  refine ⟨fun _ => hW1.S, ?_⟩
  have HQ := hQ z
  obtain ⟨zk, zf, zn, zs, zla, zlc, zl, zka, zkc, zks⟩ := z
  have HQ2 := HQ zk zf zn zs zla zlc zl zka zkc zks
  clear HQ hQ
  show Any2 Tryz.prog .any opsOfL Q c.S tailOfL _ _ (a.put (some 27) (.agg #[.int .i64 zk, .bool zf, .int .i64 zn, .string zs, .slice zla zl.length zlc, .slice zka zks.length zkc])) w1
  have g0 := ev_get (t := 27) (a := (a.put (some 27) (.agg #[.int .i64 zk, .bool zf, .int .i64 zn, .string zs, .slice zla zl.length zlc, .slice zka zks.length zkc]))) (v := .agg #[.int .i64 zk, .bool zf, .int .i64 zn, .string zs, .slice zla zl.length zlc, .slice zka zks.length zkc]) (by exact ev_same (by rw [ha.size]; decide))
  have hr : ∀ b : Act, b.tmps[27]?.getD undef = .agg #[.int .i64 zk, .bool zf, .int .i64 zn, .string zs, .slice zla zl.length zlc, .slice zka zks.length zkc] → (execOp b.eval oOfL_4).run Tryz.prog w1 = .ok (.value (.slice (some ⟨w1.heap.size, 0, none⟩) 1 1)) (w1.alloc (.cells #[.int .i64 zk, .bool zf, .int .i64 zn, .string zs, .slice zla zl.length zlc, .slice zka zks.length zkc] 36)) := fun b g0 => by
    simp [execOp, oOfL_4, g0, go_sem]
  have hal := (Fresh.refl w1).alloc (.cells #[.int .i64 zk, .bool zf, .int .i64 zn, .string zs, .slice zla zl.length zlc, .slice zka zks.length zkc] 36)
  have hW2 := hW1.move hal
  have hza2 := hzo.move hal
  have hk : (w1.alloc (.cells #[.int .i64 zk, .bool zf, .int .i64 zn, .string zs, .slice zla zl.length zlc, .slice zka zks.length zkc] 36)).heap[w1.heap.size]? = some (.cells #[.int .i64 zk, .bool zf, .int .i64 zn, .string zs, .slice zla zl.length zlc, .slice zka zks.length zkc] 36 (0, 0)) := at_new w1 _
  refine Any2.one (i := 4) (by kernel_rfl) (wpOp_run (o := oOfL_4) (by rfl) rfl (hr _ g0) ⟨(fun _ => hW2.S), ?_⟩)
  clear hr g0 hal hzo
  show Any2 Tryz.prog .any opsOfL Q c.S tailOfL _ _ ((a.put (some 27) (.agg #[.int .i64 zk, .bool zf, .int .i64 zn, .string zs, .slice zla zl.length zlc, .slice zka zks.length zkc])).put (some 28) (.slice (some ⟨w1.heap.size, 0, none⟩) 1 1)) (w1.alloc (.cells #[.int .i64 zk, .bool zf, .int .i64 zn, .string zs, .slice zla zl.length zlc, .slice zka zks.length zkc] 36))
  generalize w1.alloc (.cells #[.int .i64 zk, .bool zf, .int .i64 zn, .string zs, .slice zla zl.length zlc, .slice zka zks.length zkc] 36) = w2 at *
  generalize w1.heap.size = k1 at *
  have e0 : ((a.put (some 27) (.agg #[.int .i64 zk, .bool zf, .int .i64 zn, .string zs, .slice zla zl.length zlc, .slice zka zks.length zkc])).put (some 28) (.slice (some ⟨k1, 0, none⟩) 1 1)).eval (.tmp 25) = .slice c.la c.j c.lc := by rw [ev_ne (by decide), ev_ne (by decide)]; exact ha.e25
  have e1 : ((a.put (some 27) (.agg #[.int .i64 zk, .bool zf, .int .i64 zn, .string zs, .slice zla zl.length zlc, .slice zka zks.length zkc])).put (some 28) (.slice (some ⟨k1, 0, none⟩) 1 1)).eval (.tmp 28) = .slice (some ⟨k1, 0, none⟩) 1 1 := by exact ev_same (by rw [put_size, ha.size]; decide)
  refine Any2.one (i := 5) (by kernel_rfl) (wpOp_of (o := oOfL_5) (by rfl) rfl ?_)
  refine wp_append_lies (P := Tryz.prog) w2 (.tmp 25) (.tmp 28) 33 (by rfl) c.N 36 i0 z0 6 88 Tryz.underlying33 hi hz0 hz1 hz2 hzc (by decide) (.slice c.la c.j c.lc) c.j (mcells c.xs) e0 hW2.is.rx ⟨k1, 0, none⟩ 1 1 #[.int .i64 zk, .bool zf, .int .i64 zn, .string zs, .slice zla zl.length zlc, .slice zka zks.length zkc].toList e1 (by rfl) (World.news_of_block hk) (fun v hv => by
      simp only [List.mem_cons, List.not_mem_nil, or_false] at hv
      rcases hv with rfl | rfl | rfl | rfl | rfl | rfl <;> rfl) (by decide) (by unfold maxLen; omega) (by omega) hW2.is.le w2.heap.size rfl ?_
  clear e0 e1
  intro g cap w3 hown hgrow hat _
  have hne : ∀ ad : Addr, c.la = some ad → ad.block ≠ c.B := fun ad e => by have := (own_type hW2.is.rx ad e).1; have h2 := hW2.is.low; omega
  have hbx := grown_at hgrow hW2.is.bx hne
  have hfr : Fresh c.w0 w3 := hW2.is.fresh.grown hgrow (fun k e => by
    obtain ⟨ad, e1, e2⟩ := own_block e
    have h1 := (own_type hW2.is.rx ad e1).1
    have h2 := hW2.is.low
    have h3 := hW2.is.base
    omega)
  have hbw3 : w3.heap[c.b]? = _ := kept_other hW2.is.rx hgrow hW2.bw (by decide)
  have hx5 := cell_of_at hbx (i := 4) rfl
  have fx := (box_frozen hbx).1
  have hlt := lt_of_at hbx
  have hsz3 := hgrow.size
  have hgw : c.N ≤ g := by have := (World.ownsRow.lt hown g rfl).1; exact this
  have hIS : LxIs c.w0 (w3.setCell ⟨c.B, 4, none⟩ (.slice (some ⟨g, 0, none⟩) (c.j + 1) cap)) c.B c.N c.k c.f c.nn c.s (c.j + 1) (some ⟨g, 0, none⟩) cap (c.xs ++ [(M.mk zk zf zn zs zla zlc zl zka zkc zks)]) := by
    have gs := grown_set w3 c.B 4 (.slice (some ⟨g, 0, none⟩) (c.j + 1) cap)
    refine ⟨hW2.is.low, ?_, ?_, ?_, ?_, hW2.is.base, ?_⟩
    · simp [World.setCell, Array.getElem?_modify, hbx]
    · refine kept_row (xs := mcells (c.xs ++ [(M.mk zk zf zn zs zla zlc zl zka zkc zks)])) (by rw [mcells_snoc]; exact hown) gs (fun ad e e2 => ?_)
      cases e
      injection e2 with e2
      have := hW2.is.low
      dsimp only at e2
      omega
    · intro x hx
      rcases List.mem_append.1 hx with hx | hx
      · exact ((hW2.is.ax x hx).grown hgrow hat).set
      · rw [List.mem_singleton] at hx
        subst hx
        exact (hza2.grown hgrow hat).set
    · have : (w3.setCell ⟨c.B, 4, none⟩ (.slice (some ⟨g, 0, none⟩) (c.j + 1) cap)).heap.size = w3.heap.size := by simp [World.setCell]
      have := hW2.is.le
      omega
    · exact hfr.setCell hW2.is.base _
  refine ⟨(fun _ => ⟨cell_of_at hbx rfl, cell_of_at hbw3 rfl, cell_of_at hbw3 rfl, cell_of_at hbw3 rfl, cell_of_at hbw3 rfl, cell_of_at hbw3 rfl, cell_of_at hbw3 rfl⟩), ?_⟩
  show Any2 Tryz.prog .any opsOfL Q c.S tailOfL _ _ (((a.put (some 27) (.agg #[.int .i64 zk, .bool zf, .int .i64 zn, .string zs, .slice zla zl.length zlc, .slice zka zks.length zkc])).put (some 28) (.slice (some ⟨k1, 0, none⟩) 1 1)).put (some 29) (.slice (some ⟨g, 0, none⟩) (c.j + 1) cap)) w3
  have g0 := ev_get (t := 3) (a := (((a.put (some 27) (.agg #[.int .i64 zk, .bool zf, .int .i64 zn, .string zs, .slice zla zl.length zlc, .slice zka zks.length zkc])).put (some 28) (.slice (some ⟨k1, 0, none⟩) 1 1)).put (some 29) (.slice (some ⟨g, 0, none⟩) (c.j + 1) cap))) (v := .pointer (some ⟨c.B, 0, none⟩)) (by rw [ev_ne (by decide), ev_ne (by decide), ev_ne (by decide)]; exact ha.e3)
  have hr : ∀ b : Act, b.tmps[3]?.getD undef = .pointer (some ⟨c.B, 0, none⟩) → (execOp b.eval oOfL_6).run Tryz.prog w3 = .ok (.value (.pointer (some ⟨c.B, 4, none⟩))) w3 := fun b g0 => by
    simp [execOp, oOfL_6, g0, go_sem]
  refine Any2.one (i := 6) (by kernel_rfl) (wpOp_run (o := oOfL_6) (by rfl) rfl (hr _ g0) ⟨(fun h => by cases h), ?_⟩)
  clear hr g0
  show Any2 Tryz.prog .any opsOfL Q c.S tailOfL _ _ ((((a.put (some 27) (.agg #[.int .i64 zk, .bool zf, .int .i64 zn, .string zs, .slice zla zl.length zlc, .slice zka zks.length zkc])).put (some 28) (.slice (some ⟨k1, 0, none⟩) 1 1)).put (some 29) (.slice (some ⟨g, 0, none⟩) (c.j + 1) cap)).put (some 30) (.pointer (some ⟨c.B, 4, none⟩))) w3
  have g0 := ev_get (t := 30) (a := ((((a.put (some 27) (.agg #[.int .i64 zk, .bool zf, .int .i64 zn, .string zs, .slice zla zl.length zlc, .slice zka zks.length zkc])).put (some 28) (.slice (some ⟨k1, 0, none⟩) 1 1)).put (some 29) (.slice (some ⟨g, 0, none⟩) (c.j + 1) cap)).put (some 30) (.pointer (some ⟨c.B, 4, none⟩)))) (v := .pointer (some ⟨c.B, 4, none⟩)) (by exact ev_same (by rw [put_size, put_size, put_size, ha.size]; decide))
  have g1 := ev_get (t := 29) (a := ((((a.put (some 27) (.agg #[.int .i64 zk, .bool zf, .int .i64 zn, .string zs, .slice zla zl.length zlc, .slice zka zks.length zkc])).put (some 28) (.slice (some ⟨k1, 0, none⟩) 1 1)).put (some 29) (.slice (some ⟨g, 0, none⟩) (c.j + 1) cap)).put (some 30) (.pointer (some ⟨c.B, 4, none⟩)))) (v := .slice (some ⟨g, 0, none⟩) (c.j + 1) cap) (by rw [ev_ne (by decide)]; exact ev_same (by rw [put_size, put_size, ha.size]; decide))
  have hr : ∀ b : Act, b.tmps[30]?.getD undef = .pointer (some ⟨c.B, 4, none⟩) → b.tmps[29]?.getD undef = .slice (some ⟨g, 0, none⟩) (c.j + 1) cap → (execOp b.eval oOfL_7).run Tryz.prog w3 = .ok .skip (w3.setCell ⟨c.B, 4, none⟩ (.slice (some ⟨g, 0, none⟩) (c.j + 1) cap)) := fun b g0 g1 => by
    simp [execOp, oOfL_7, g0, g1, go_sem, hx5, fx]
  refine Any2.one (i := 7) (by kernel_rfl) (wpOp_skip (o := oOfL_7) (by rfl) rfl rfl (hr _ g0 g1) ⟨(fun h => by cases h), ?_⟩)
  exact Any2.end (by kernel_rfl) (HQ2 k1 g cap _ rfl hzp hIS)
theorem regionOfL (w : World) (hs : a.tmps.size = 52) (e3 : a.eval (.tmp 3) = .pointer (some ⟨c.B, 0, none⟩)) (e5 : a.eval (.tmp 5) = .pointer (some ⟨c.b, 0, none⟩)) (hW0 : c.W w) (hv : c.y.val = .agg c.cs) (hy : c.y.At w) (ih : OfSays c.y) (hj : c.j ≤ 1000000) (hpan : ∀ p (d : Nat) v (b : Act) u, Q (.panic p) (b.put (some d) v) u → Q (.panic p) b u)
    (hQ : ∀ (z : M) (zk : Int) (zf : Bool) (zn : Int) (zs : ByteArray) (zla : Option Addr) (zlc : Nat) (zl : List M) (zka : Option Addr) (zkc : Nat) (zks : List (ByteArray × M)) (k1 g cap : Nat) (u' : World), z = (M.mk zk zf zn zs zla zlc zl zka zkc zks) → z.plain = c.y.plain → LxIs c.w0 u' c.B c.N c.k c.f c.nn c.s (c.j + 1) (some ⟨g, 0, none⟩) cap (c.xs ++ [z]) → Q .normal (((((c.loaded a).put (some 27) (.agg #[.int .i64 zk, .bool zf, .int .i64 zn, .string zs, .slice zla zl.length zlc, .slice zka zks.length zkc])).put (some 28) (.slice (some ⟨k1, 0, none⟩) 1 1)).put (some 29) (.slice (some ⟨g, 0, none⟩) (c.j + 1) cap)).put (some 30) (.pointer (some ⟨c.B, 4, none⟩))) u') : (Code.region 5 opsOfL true).wp Tryz.prog Q a w := by
  have hW := hW0.move (Fresh.refl w).drew
  have hS := hW.S
  refine Any2.start (S := c.S) (tail := tailOfL) (by kernel_rfl) ?_
  have hsz : opsOfL.size = 7 + 1 := rfl
  rw [hsz]
  refine Any2.take (i := 0) (oi := oOfL_0) (v := .pointer (some ⟨c.B, 4, none⟩)) (by rfl) (by kernel_rfl) (by kernel_rfl) (by kernel_rfl) (by rfl) (by kernel_rfl) (by kernel_rfl) (fun p b u h => hpan p _ _ b u h) hS (.inl ⟨by rfl, fun u hu => ?_⟩) ?_
  · have g := ev_get (t := 3) (a := a) (v := .pointer (some ⟨c.B, 0, none⟩)) (e3)
    simp [execOp, oOfL_0, g, go_sem]
  show Any2 Tryz.prog .any opsOfL Q c.S tailOfL _ _ (a.put (some 24) (.pointer (some ⟨c.B, 4, none⟩))) w.drew
  refine Any2.take (i := 1) (oi := oOfL_1) (v := .slice c.la c.j c.lc) (by rfl) (by kernel_rfl) (by kernel_rfl) (by kernel_rfl) (by rfl) (by kernel_rfl) (by kernel_rfl) (fun p b u h => hpan p _ _ b u h) hS (.inl ⟨by rfl, fun u hu => ?_⟩) ?_
  · have g := ev_get (t := 24) (a := (a.put (some 24) (.pointer (some ⟨c.B, 4, none⟩)))) (v := .pointer (some ⟨c.B, 4, none⟩)) (by exact ev_same (by rw [hs]; decide))
    obtain ⟨h1, k0, k1, k2, k3, k4, k5⟩ := hu
    generalize (a.put (some 24) (.pointer (some ⟨c.B, 4, none⟩))) = b at *
    simp [execOp, oOfL_1, g, go_sem, h1]
  show Any2 Tryz.prog .any opsOfL Q c.S tailOfL _ _ ((a.put (some 24) (.pointer (some ⟨c.B, 4, none⟩))).put (some 25) (.slice c.la c.j c.lc)) w.drew
  refine Any2.take (i := 2) (oi := oOfL_2) (v := .agg c.cs) (by rfl) (by kernel_rfl) (by kernel_rfl) (by kernel_rfl) (by rfl) (by kernel_rfl) (by kernel_rfl) (fun p b u h => hpan p _ _ b u h) hS (.inl ⟨by rfl, fun u hu => ?_⟩) ?_
  · have g := ev_get (t := 5) (a := ((a.put (some 24) (.pointer (some ⟨c.B, 4, none⟩))).put (some 25) (.slice c.la c.j c.lc))) (v := .pointer (some ⟨c.b, 0, none⟩)) (by rw [ev_ne (by decide), ev_ne (by decide)]; exact e5)
    obtain ⟨h1, k0, k1, k2, k3, k4, k5⟩ := hu
    generalize ((a.put (some 24) (.pointer (some ⟨c.B, 4, none⟩))).put (some 25) (.slice c.la c.j c.lc)) = b at *
    simp [execOp, oOfL_2, g, go_sem, k0, k1, k2, k3, k4, k5, Lx.cs]
  show Any2 Tryz.prog .any opsOfL Q c.S tailOfL _ _ (((a.put (some 24) (.pointer (some ⟨c.B, 4, none⟩))).put (some 25) (.slice c.la c.j c.lc)).put (some 26) (.agg c.cs)) w.drew
  have hL : Lx.At c (c.loaded a) := by
    refine ⟨?_, ?_, ?_, ?_⟩
    · simp only [Lx.loaded, put_size, hs]
    · rw [Lx.loaded]; exact (by rw [ev_ne (by decide), ev_ne (by decide), ev_ne (by decide)]; exact e3)
    · rw [Lx.loaded]; exact (by rw [ev_ne (by decide)]; exact ev_same (by rw [put_size, hs]; decide))
    · rw [Lx.loaded]; exact (by exact ev_same (by rw [put_size, put_size, hs]; decide))
  exact (congrArg (fun D => Any2 Tryz.prog .any opsOfL Q c.S tailOfL 5 D (c.loaded a) w.drew) (show _ = #[true, true, true, false, false, false, false, false] by kernel_rfl)).mpr (stepsOfL hL w.drew hW hv (hy.move (Fresh.refl w).drew) ih hj hQ)
end v
end Go.Proofs.YtcljplkkgpjhlaaGreatDoorR
