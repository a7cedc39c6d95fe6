/-
  'append([]T{}, row...)': a row's copy in memory of the call's own. Of no program.
-/
import Derived.Deep.AppendLies
import Derived.Deep.AppendSrc
import Derived.Below
namespace Go.Proofs.Ytimcoofmemcojaa
section
variable {P : Program} (w : World)
/-- An empty row of the call's own: '[]T{}'. -/
theorem empty_owns {w : World} {X : Nat} {e : TypeId} (size : Nat) (hX : w.heap[X]? = some (.cells #[] e (0, 0))) : w.ownsRow X e size (.slice (some ⟨X, 0, none⟩) 0 0) 0 [] :=
  ⟨by simp, .inr ⟨X, 0, #[], rfl, Nat.le_refl _, hX, Nat.le_refl _, Nat.zero_le _, by simp, by simp⟩⟩
theorem run_copy (t ty e : TypeId) (i : TypeInfo) (z : Value) (size bytes : Nat) (ht : P.underlying t = some (.slice e)) (hi : P.info? e = some i) (hz : i.zero = some z)
    (hsize : i.size = size) (hby : i.bytes = bytes) (hzs : z.cells.size = size) (hsz : 0 < size)
    (X : Nat) (hX : w.heap[X]? = some (.cells #[] e (0, 0))) (u : Value) (m : Nat) (ys : List Value) (hu : w.ownsRow 0 e size u m ys) (h1 : ∀ x ∈ ys, x.oneCell' = true)
    (h63 : m ≤ maxLen) (hbytes : m * bytes ≤ 140737488355328) :
    ∃ g cap w', (Builtin.append_ #[t, t] ty #[.slice (some ⟨X, 0, none⟩) 0 0, u]).run P w = .ok (.slice (some ⟨g, 0, none⟩) m cap) w' ∧ w'.ownsRow X e size (.slice (some ⟨g, 0, none⟩) m cap) m ys ∧ w.grownBy w' (some X) ∧ (g = X ∨ g = w.heap.size) := by
  have hXl : X < w.heap.size := (Array.getElem?_eq_some_iff.1 hX).1
  rcases hu.2 with ⟨rfl, rfl⟩ | ⟨g, cap, cur, rfl, _, hg, hmc, hcm, hcs, htk⟩
  · have hys : ys = [] := List.eq_nil_of_length_eq_zero (by simpa using hu.1)
    subst hys
    subst hsize
    have hr := run_append_room_src (P := P) w t t ty e i ht hi X 0 0 0 (.slice none 0 0) 0 [] (Src.ofNil w ht 0) (Nat.le_refl _) (by simp) (by simp)
    refine ⟨X, 0, w, ?_, empty_owns i.size hX, ⟨rfl, rfl, rfl, Nat.le_refl _, fun _ _ _ => rfl⟩, .inl rfl⟩
    exact hr
  · have hc : ∀ j x, ys[j]? = some x → w.cell? ((⟨g, 0, none⟩ : Addr).add j) = some x := hu.cells (g := g) rfl
    obtain ⟨v', w', hr, hown, hgr, _, hat⟩ := run_append_own_at (P := P) w X t ty e i z size bytes ht hi hz hsize hby hzs hsz (.slice (some ⟨X, 0, none⟩) 0 0) 0 [] (empty_owns size hX) ⟨g, 0, none⟩ m cap ys hu.1 hc h1 (by omega) (by rw [Nat.zero_add]; exact hbytes) (Nat.le_of_lt hXl)
    rw [Nat.zero_add, List.nil_append] at hown
    rcases hown.2 with ⟨rfl, h0⟩ | ⟨g', cap', cur', rfl, _⟩
    · rcases hat with h | h
      · exact absurd h (by simp [Value.ownBlock])
      · exact absurd h (by simp [Value.ownBlock])
    · refine ⟨g', cap', w', hr, hown, hgr, ?_⟩
      rcases hat with h | h
      · exact .inl (by simpa [Value.ownBlock] using h)
      · exact .inr (by simpa [Value.ownBlock] using h)
theorem wp_copy {o : Oper} {a : Act} {K : Act → World → Prop} {Q : Exit → Act → World → Prop} (s x : Operand) (t : TypeId)
    (ho : o.op = .call { callee := .builtin .append, args := #[s, x], argTypes := #[t, t] })
    (e : TypeId) (i : TypeInfo) (z : Value) (size bytes : Nat) (ht : P.underlying t = some (.slice e)) (hi : P.info? e = some i) (hz : i.zero = some z)
    (hsize : i.size = size) (hby : i.bytes = bytes) (hzs : z.cells.size = size) (hsz : 0 < size)
    (X : Nat) (hs : a.eval s = .slice (some ⟨X, 0, none⟩) 0 0) (hX : w.heap[X]? = some (.cells #[] e (0, 0))) (u : Value) (m : Nat) (ys : List Value) (hx : a.eval x = u) (hu : w.ownsRow 0 e size u m ys) (h1 : ∀ x ∈ ys, x.oneCell' = true)
    (h63 : m ≤ maxLen) (hbytes : m * bytes ≤ 140737488355328)
    (h : ∀ g cap w', w'.ownsRow X e size (.slice (some ⟨g, 0, none⟩) m cap) m ys → w.grownBy w' (some X) → (g = X ∨ g = w.heap.size) → K (a.put o.dst (.slice (some ⟨g, 0, none⟩) m cap)) w') : o.wp P a w K Q := by
  obtain ⟨g, cap, w', hr, h2, h3, h4⟩ := run_copy (P := P) w t o.type e i z size bytes ht hi hz hsize hby hzs hsz X hX u m ys hu h1 h63 hbytes
  unfold Oper.wp execOp
  simp only [ho, resolve, invoke, builtin, Sem.run_bind, Sem.run_pure, Result.andThen_ok, List.map_toArray, List.map_cons, List.map_nil, hs, hx, hr]
  exact h g cap w' h2 h3 h4
theorem wpList_copy {ops : Array Oper} {rest : List Oper} {o : Oper} {a : Act} {Q : Exit → Act → World → Prop} (hgd : o.guard = none) (s x : Operand) (t : TypeId)
    (ho : o.op = .call { callee := .builtin .append, args := #[s, x], argTypes := #[t, t] })
    (e : TypeId) (i : TypeInfo) (z : Value) (size bytes : Nat) (ht : P.underlying t = some (.slice e)) (hi : P.info? e = some i) (hz : i.zero = some z)
    (hsize : i.size = size) (hby : i.bytes = bytes) (hzs : z.cells.size = size) (hsz : 0 < size)
    (X : Nat) (hs : a.eval s = .slice (some ⟨X, 0, none⟩) 0 0) (hX : w.heap[X]? = some (.cells #[] e (0, 0))) (u : Value) (m : Nat) (ys : List Value) (hx : a.eval x = u) (hu : w.ownsRow 0 e size u m ys) (h1 : ∀ x ∈ ys, x.oneCell' = true)
    (h63 : m ≤ maxLen) (hbytes : m * bytes ≤ 140737488355328)
    (h : ∀ g cap w', w'.ownsRow X e size (.slice (some ⟨g, 0, none⟩) m cap) m ys → w.grownBy w' (some X) → (g = X ∨ g = w.heap.size) → wpList P ops Q rest (a.put o.dst (.slice (some ⟨g, 0, none⟩) m cap)) w') : wpList P ops Q (o :: rest) a w :=
  wpList_plain hgd fun _ hK => wp_copy w s x t ho e i z size bytes ht hi hz hsize hby hzs hsz X hs hX u m ys hx hu h1 h63 hbytes fun g cap w' h2 h3 h4 => hK _ _ (h g cap w' h2 h3 h4)
theorem step_copy {ops : Array Oper} {o : Oper} {a : Act} {K : Act → World → Prop} {Q : Exit → Act → World → Prop} {E : Prop} (hgd : o.guard = none) (s x : Operand) (t : TypeId)
    (ho : o.op = .call { callee := .builtin .append, args := #[s, x], argTypes := #[t, t] })
    (e : TypeId) (i : TypeInfo) (z : Value) (size bytes : Nat) (ht : P.underlying t = some (.slice e)) (hi : P.info? e = some i) (hz : i.zero = some z)
    (hsize : i.size = size) (hby : i.bytes = bytes) (hzs : z.cells.size = size) (hsz : 0 < size)
    (X : Nat) (hs : a.eval s = .slice (some ⟨X, 0, none⟩) 0 0) (hX : w.heap[X]? = some (.cells #[] e (0, 0))) (u : Value) (m : Nat) (ys : List Value) (hx : a.eval x = u) (hu : w.ownsRow 0 e size u m ys) (h1 : ∀ x ∈ ys, x.oneCell' = true)
    (h63 : m ≤ maxLen) (hbytes : m * bytes ≤ 140737488355328)
    (h : ∀ g cap w', w'.ownsRow X e size (.slice (some ⟨g, 0, none⟩) m cap) m ys → w.grownBy w' (some X) → (g = X ∨ g = w.heap.size) → K (a.put o.dst (.slice (some ⟨g, 0, none⟩) m cap)) w') :
    if Region.wanted o (yielded ops a.tmps) = true then Oper.wp P o a w K Q else E := by
  have hw : Region.wanted o (yielded ops a.tmps) = true := by simp [Region.wanted, hgd]
  rw [if_pos hw]
  exact wp_copy w s x t ho e i z size bytes ht hi hz hsize hby hzs hsz X hs hX u m ys hx hu h1 h63 hbytes h
end
end Go.Proofs.Ytimcoofmemcojaa
