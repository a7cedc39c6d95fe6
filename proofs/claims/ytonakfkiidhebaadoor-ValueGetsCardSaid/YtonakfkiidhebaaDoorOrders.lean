/-
  Of regions that draw their order: loads are taken first although the region's last stores write their cells; two chains in whatever order. Of no program.
-/
import Derived.OrdersHeld
import Derived.Laws.World
namespace Go.Proofs.YtonakfkiidhebaaDoor
section
variable {P : Program} {ops : Array Oper} {Q : Exit → Act → World → Prop} {md : Region.Mode} {S : World → Prop} {tail : Nat → Bool}

/-- Whatever order is picked; behind each operation that isn't of the tail S holds. -/
def Any2 (P : Program) (md : Region.Mode) (ops : Array Oper) (Q : Exit → Act → World → Prop) (S : World → Prop) (tail : Nat → Bool) : Nat → Array Bool → Act → World → Prop
  | 0, done, a, w => Region.ready md ops done = [] ∧ Q .normal a w
  | f + 1, done, a, w => (Region.ready md ops done = [] → Q .normal a w) ∧
      ∀ k, k ∈ Region.ready md ops done → wpOp P ops Q k (fun b u => (tail k = false → S u) ∧ Any2 P md ops Q S tail f (done.setIfInBounds k true) b u) a w
theorem Any2.any : ∀ (f : Nat) (done : Array Bool) (a : Act) (w : World), Any2 P md ops Q S tail f done a w → wpAny P md ops Q f done a w
  | 0, _, _, _, h => h
  | f + 1, _, _, _, ⟨h0, h1⟩ => ⟨h0, fun k hk => wpOp_mono (fun b u h => Any2.any f _ b u h.2) (h1 k hk)⟩
theorem Any2.start {id : Nat} {a : Act} {w : World} (hm : P.follows .mixedOrders = true) (h : Any2 P .any ops Q S tail ops.size (Array.replicate ops.size false) a w.drew) : (Code.region id ops true).wp P Q a w :=
  wp_region_any hm (Any2.any _ _ _ _ h)
/-- What came up already had all that it waits for. -/
def Closed (md : Region.Mode) (ops : Array Oper) (done : Array Bool) : Prop := ∀ k o, ops[k]? = some o → done.getD k false = true → ∀ e ∈ o.after, Region.binds md e = true → done.getD e.on false = true
def closedB (md : Region.Mode) (ops : Array Oper) (done : Array Bool) : Bool :=
  (List.range ops.size).all fun k => !done.getD k false || ((ops[k]?).map fun o => o.after.all fun e => !Region.binds md e || done.getD e.on false).getD true
theorem closed_of {done : Array Bool} (h : closedB md ops done = true) : Closed md ops done := by
  intro k o hk hd e he hb
  have hlt : k < ops.size := (Array.getElem?_eq_some_iff.1 hk).1
  have h1 := List.all_eq_true.1 h k (List.mem_range.2 hlt)
  rw [hd, hk] at h1
  simp only [Bool.not_true, Bool.false_or, Option.map_some, Option.getD_some] at h1
  have h2 := (Array.all_eq_true_iff_forall_mem.1 h1) e he
  rw [hb] at h2
  simpa using h2
theorem Closed.set {done : Array Bool} {j : Nat} (h : Closed md ops done) (hj : j ∈ Region.ready md ops done) : Closed md ops (done.setIfInBounds j true) := by
  obtain ⟨_, oj, hoj, hall⟩ := mem_ready.1 hj
  intro k o hk hd e he hb
  by_cases hkj : j = k
  · subst hkj
    rw [hoj] at hk
    cases hk
    exact getD_set_true (hall e he hb)
  · rw [getD_set_ne false hkj] at hd
    exact getD_set_true (h k o hk hd e he hb)
/-- Operation j waits for operation k, or for one that does. -/
def waits (md : Region.Mode) (ops : Array Oper) : Nat → Nat → Nat → Bool
  | 0, _, _ => false
  | n + 1, j, k => ((ops[j]?).map fun o => o.after.any fun e => Region.binds md e && (e.on == k || waits md ops n e.on k)).getD false
theorem waits_spec {k : Nat} {done : Array Bool} (hc : Closed md ops done) : ∀ (n j : Nat) (oj : Oper), waits md ops n j k = true → ops[j]? = some oj → (∀ e ∈ oj.after, Region.binds md e = true → done.getD e.on false = true) → done.getD k false = true
  | 0, _, _, h, _, _ => by cases h
  | n + 1, j, oj, h, hj, hall => by
    rw [waits, hj] at h
    simp only [Option.map_some, Option.getD_some] at h
    obtain ⟨e, he, hb⟩ := Array.any_eq_true'.1 h
    rw [Bool.and_eq_true, Bool.or_eq_true, beq_iff_eq] at hb
    have h2 := hall e he hb.1
    rcases hb.2 with h3 | h3
    · rw [← h3]; exact h2
    · cases hp : ops[e.on]? with
      | none =>
        cases n with
        | zero => cases h3
        | succ n => rw [waits, hp] at h3; cases h3
      | some p => exact waits_spec hc n e.on p h3 hp (fun e2 he2 hb2 => hc e.on p hp h2 e2 he2 hb2)
/-- Each of the tail waits for operation k. -/
def behind (md : Region.Mode) (ops : Array Oper) (tail : Nat → Bool) (k : Nat) : Bool :=
  (List.range ops.size).all fun j => !tail j || waits md ops 6 j k
theorem behind_spec {k j : Nat} {oj : Oper} {done : Array Bool} (h : behind md ops tail k = true) (hc : Closed md ops done) (hj : ops[j]? = some oj) (ht : tail j = true) (hall : ∀ e ∈ oj.after, Region.binds md e = true → done.getD e.on false = true) : done.getD k false = true := by
  have hlt : j < ops.size := (Array.getElem?_eq_some_iff.1 hj).1
  have h1 := List.all_eq_true.1 h j (List.mem_range.2 hlt)
  rw [ht] at h1
  exact waits_spec hc 6 j oj (by simpa using h1) hj hall
theorem Any2.first {i : Nat} {oi : Oper} {v : Value} (hi : ops[i]? = some oi) (hsel : ∀ (j : Nat) (o : Oper) cs b, ops[j]? = some o → o.op ≠ .select cs b)
    (hQ : ∀ c a w, Q (.panic c) (a.put oi.dst v) w → Q (.panic c) a w) (ht : tail i = false) (hb : behind md ops tail i = true) :
    ∀ (f : Nat) (done : Array Bool) (a : Act) (w : World),
      (∀ j oj, ops[j]? = some oj → j ≠ i → done.getD j true = false → (∀ e ∈ oj.after, Region.binds md e = true → e.on ≠ i) → oi.apart ops oj = true) →
      Closed md ops done → i ∈ Region.ready md ops done → YieldsIf P ops S oi v a → S w →
      Any2 P md ops Q S tail f (done.setIfInBounds i true) (a.put oi.dst v) w → Any2 P md ops Q S tail (f + 1) done a w := by
  intro f
  induction f with
  | zero =>
    intro done a w _ _ hr hy hS H
    refine ⟨fun h => absurd hr (by rw [h]; exact List.not_mem_nil), fun j hj => ?_⟩
    by_cases e : j = i
    · subst e; exact hy.wpOp hi hS ⟨fun _ => hS, H⟩
    · have := ready_mono hj e
      rw [H.1] at this
      cases this
  | succ f ih =>
    intro done a w hfree hcl hr hy hS H
    refine ⟨fun h => absurd hr (by rw [h]; exact List.not_mem_nil), fun j hj => ?_⟩
    by_cases e : j = i
    · subst e; exact hy.wpOp hi hS ⟨fun _ => hS, H⟩
    obtain ⟨hjun, oj, hoj, hall⟩ := mem_ready.1 hj
    have hi0 := (mem_ready.1 hr).1
    have hnot : ∀ e ∈ oj.after, Region.binds md e = true → e.on ≠ i := fun e he hbe heq => by
      have h1 := hall e he hbe
      rw [heq] at h1
      rcases Nat.lt_or_ge i done.size with h2 | h2
      · simp [h2] at hi0 h1; rw [hi0] at h1; cases h1
      · simp [Array.getElem?_eq_none h2] at h1
    have htj : tail j = false := by
      cases htj : tail j with
      | false => rfl
      | true =>
        have h1 := behind_spec hb hcl hoj htj hall
        rcases Nat.lt_or_ge i done.size with h2 | h2
        · simp [h2] at hi0 h1; rw [hi0] at h1; cases h1
        · simp [Array.getElem?_eq_none h2] at h1
    have h2 := wpOp_putIf hoj (hfree j oj hoj e hjun hnot) (fun cs b => hsel i oi cs b hi) (fun cs b => hsel j oj cs b hoj) hQ hy (H.2 j (ready_mono hj e))
    have hfree' : ∀ k ok, ops[k]? = some ok → k ≠ i → (done.setIfInBounds j true).getD k true = false → (∀ e ∈ ok.after, Region.binds md e = true → e.on ≠ i) → oi.apart ops ok = true := fun k ok hk hki hun hno => by
      refine hfree k ok hk hki ?_ hno
      by_cases hjk : j = k
      · subst hjk; exact hjun
      · rw [getD_set_ne true hjk] at hun; exact hun
    refine wpOp_mono (fun b u h3 => ?_) h2
    obtain ⟨hy', hS', h4⟩ := h3
    refine ⟨hS', ih (done.setIfInBounds j true) b u hfree' (hcl.set hj) (ready_mono hr (Ne.symm e)) hy' (hS' htj) ?_⟩
    rw [Array.setIfInBounds_comm _ _ e]
    exact h4
/-- Operation i is taken first. -/
theorem Any2.take {i : Nat} {oi : Oper} {v : Value} {f : Nat} {done : Array Bool} {a : Act} {w : World} (hi : ops[i]? = some oi) (hs : Region.noSelect ops = true) (hf : Region.free md ops done i = true) (hr : (Region.ready md ops done).contains i = true)
    (ht : tail i = false) (hb : behind md ops tail i = true) (hcl : closedB md ops done = true) (hQ : ∀ c a w, Q (.panic c) (a.put oi.dst v) w → Q (.panic c) a w) (hS : S w) (hy : YieldsIf P ops S oi v a)
    (h : Any2 P md ops Q S tail f (done.setIfInBounds i true) (a.put oi.dst v) w) : Any2 P md ops Q S tail (f + 1) done a w :=
  Any2.first hi (Region.noSelect_spec hs) hQ ht hb f done a w (Region.free_spec hi hf) (closed_of hcl) (by simpa using hr) hy hS h
/-- One alone may come up. -/
theorem Any2.one {i : Nat} {f : Nat} {done : Array Bool} {a : Act} {w : World} (hr : Region.ready md ops done = [i])
    (h : wpOp P ops Q i (fun b u => (tail i = false → S u) ∧ Any2 P md ops Q S tail f (done.setIfInBounds i true) b u) a w) : Any2 P md ops Q S tail (f + 1) done a w := by
  refine ⟨(fun e => by rw [hr] at e; cases e), fun k hk => ?_⟩
  rw [hr] at hk
  obtain rfl := List.mem_singleton.1 hk
  exact h
theorem Any2.end {f : Nat} {done : Array Bool} {a : Act} {w : World} (hr : Region.ready md ops done = []) (h : Q .normal a w) : Any2 P md ops Q S tail f done a w := by
  cases f with
  | zero => exact ⟨hr, h⟩
  | succ f => exact ⟨fun _ => h, fun k hk => by rw [hr] at hk; cases hk⟩
/-- An operation without a guard. -/
theorem wpOp_of {i : Nat} {o : Oper} {K : Act → World → Prop} {a : Act} {w : World} (hi : ops[i]? = some o) (hg : o.guard = none) (h : o.wp P a w K Q) : wpOp P ops Q i K a w := by
  unfold wpOp
  simp only [hi]
  rw [if_pos (by simp [Region.wanted, hg])]
  exact .inl h
/-- TWO CHAINS, in whatever order: what holds at each place of the grid. -/
theorem Any2.grid (I : Nat → Nat → Act → World → Prop) (x y : Nat → Nat) (m n : Nat) (D : Nat → Nat → Array Bool)
    (hR : ∀ i j, i ≤ m → j ≤ n → i < m ∨ j < n → Region.ready md ops (D i j) ≠ [] ∧ ∀ k, k ∈ Region.ready md ops (D i j) → (i < m ∧ k = x i ∧ (D i j).setIfInBounds k true = D (i + 1) j) ∨ (j < n ∧ k = y j ∧ (D i j).setIfInBounds k true = D i (j + 1)))
    (hx : ∀ i j a w, i < m → j ≤ n → I i j a w → wpOp P ops Q (x i) (fun b u => S u ∧ I (i + 1) j b u) a w)
    (hy : ∀ i j a w, i ≤ m → j < n → y j ∈ Region.ready md ops (D i j) → I i j a w → wpOp P ops Q (y j) (fun b u => S u ∧ I i (j + 1) b u) a w)
    (f : Nat) (he : ∀ a w, I m n a w → Any2 P md ops Q S tail f (D m n) a w) :
    ∀ (d i j : Nat) (a : Act) (w : World), i ≤ m → j ≤ n → (m - i) + (n - j) = d → I i j a w → Any2 P md ops Q S tail (f + d) (D i j) a w := by
  intro d
  induction d with
  | zero =>
    intro i j a w hi hj hd h
    obtain rfl : i = m := by omega
    obtain rfl : j = n := by omega
    exact he a w h
  | succ d ih =>
    intro i j a w hi hj hd h
    obtain ⟨h1, h2⟩ := hR i j hi hj (by omega)
    refine ⟨fun e => absurd e h1, fun k hk => ?_⟩
    rcases h2 k hk with ⟨hlt, rfl, e⟩ | ⟨hlt, rfl, e⟩
    · refine wpOp_mono (fun b u h3 => ⟨fun _ => h3.1, ?_⟩) (hx i j a w hlt hj h)
      rw [e]
      exact ih (i + 1) j b u (by omega) hj (by omega) h3.2
    · refine wpOp_mono (fun b u h3 => ⟨fun _ => h3.1, ?_⟩) (hy i j a w hi hlt hk h)
      rw [e]
      exact ih i (j + 1) b u hi (by omega) (by omega) h3.2
/-- That such a grid is one, as a test. -/
def gridB (md : Region.Mode) (ops : Array Oper) (x y : Nat → Nat) (m n : Nat) (D : Nat → Nat → Array Bool) : Bool :=
  (List.range (m + 1)).all fun i => (List.range (n + 1)).all fun j => (i == m && j == n) || (!(Region.ready md ops (D i j)).isEmpty && (Region.ready md ops (D i j)).all fun k =>
    (decide (i < m) && k == x i && (D i j).setIfInBounds k true == D (i + 1) j) || (decide (j < n) && k == y j && (D i j).setIfInBounds k true == D i (j + 1)))
theorem grid_of {x y : Nat → Nat} {m n : Nat} {D : Nat → Nat → Array Bool} (h : gridB md ops x y m n D = true) :
    ∀ i j, i ≤ m → j ≤ n → i < m ∨ j < n → Region.ready md ops (D i j) ≠ [] ∧ ∀ k, k ∈ Region.ready md ops (D i j) → (i < m ∧ k = x i ∧ (D i j).setIfInBounds k true = D (i + 1) j) ∨ (j < n ∧ k = y j ∧ (D i j).setIfInBounds k true = D i (j + 1)) := by
  intro i j hi hj hlt
  have h1 := List.all_eq_true.1 (List.all_eq_true.1 h i (List.mem_range.2 (by omega))) j (List.mem_range.2 (by omega))
  rw [Bool.or_eq_true] at h1
  rcases h1 with h1 | h1
  · rw [Bool.and_eq_true, beq_iff_eq, beq_iff_eq] at h1
    omega
  · rw [Bool.and_eq_true, Bool.not_eq_true'] at h1
    refine ⟨fun e => by rw [e] at h1; simp at h1, fun k hk => ?_⟩
    have h2 := List.all_eq_true.1 h1.2 k hk
    simp only [Bool.or_eq_true, Bool.and_eq_true, decide_eq_true_eq, beq_iff_eq] at h2
    rcases h2 with ⟨⟨a, b⟩, c⟩ | ⟨⟨a, b⟩, c⟩
    · exact .inl ⟨a, b, c⟩
    · exact .inr ⟨a, b, c⟩
/-! ### frames -/
theorem ev_same {a : Act} {d : Nat} {v : Value} (h : d < a.tmps.size) : (a.put (some d) v).eval (.tmp d) = v := by
  simp [Act.put, Act.eval, h]
theorem ev_ne {a : Act} {d t : Nat} {v : Value} (h : d ≠ t) : (a.put (some d) v).eval (.tmp t) = a.eval (.tmp t) := by
  simp [Act.put, Act.eval, Array.getD_eq_getD_getElem?, h]
theorem put_size {a : Act} {d : Option Nat} {v : Value} : (a.put d v).tmps.size = a.tmps.size := by
  cases d <;> simp [Act.put]
theorem put_swap {a : Act} {d e : Nat} {v u : Value} (h : d ≠ e) : (a.put (some d) v).put (some e) u = (a.put (some e) u).put (some d) v :=
  Act.put_comm a v u (fun k hk e2 => h (by cases hk; cases e2; rfl))
end
end Go.Proofs.YtonakfkiidhebaaDoor
