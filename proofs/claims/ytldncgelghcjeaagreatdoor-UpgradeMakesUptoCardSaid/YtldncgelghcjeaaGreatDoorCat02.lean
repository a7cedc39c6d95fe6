/-
  Pods in memory.
  The document's texts: are two rows of texts the same?
  Rows that a call owns: what leaves them as they are.
  Eight operations of a region in whatever order, by what holds between them.
  A region's operations in whatever order, where each yields a value that stays what it is, whatever the others do to memory that is new.
-/
import Derived.Test.YtldncgelghcjeaaGreatDoorCat01
import Derived.Deep.DrawnRows
import Derived.RangeFuncBox
import Derived.Deep.Onto
import Derived.OrdersHeld
import Derived.Laws.World
set_option linter.unusedSimpArgs false
set_option linter.unusedVariables false
namespace Go.Proofs.YtldncgelghcjeaaGreatDoor
open Go.ChangeShapes Go.WideShapes Go.ChangeAt Go.RowKit

theorem Fresh.cell {a b : World} (h : Fresh a b) {p : Addr} {v : Value} (hc : a.cell? p = some v) : b.cell? p = some v :=
  (Below.cell h (World.block_lt_of_cell? a p hc)).trans hc
theorem Fresh.at {a b : World} (h : Fresh a b) {k : Nat} {o : Obj} (hk : a.heap[k]? = some o) : b.heap[k]? = some o := by
  rw [h.block k (Array.getElem?_eq_some_iff.1 hk).1]; exact hk
theorem addr_add (b off n : Nat) : (⟨b, off, none⟩ : Addr).add n = ⟨b, off + n, none⟩ := by
  unfold Addr.add
  split <;> simp_all
/-- A slice at a reads as these cells, wherever it begins. -/
def RowAt (w : World) (a : Option Addr) (cs : List Value) : Prop :=
  cs = [] ∨ ∃ g o, a = some ⟨g, o, none⟩ ∧ ∀ j x, cs[j]? = some x → w.cell? ⟨g, o + j, none⟩ = some x
theorem RowAt.move {w w' : World} {a : Option Addr} {cs : List Value} (h : RowAt w a cs) (f : Fresh w w') : RowAt w' a cs := by
  rcases h with h | ⟨g, o, e, h⟩
  · exact .inl h
  · exact .inr ⟨g, o, e, fun j x hj => f.cell (h j x hj)⟩
theorem RowAt.nil (w : World) (a : Option Addr) : RowAt w a [] := .inl rfl
theorem RowAt.form {w : World} {a : Option Addr} {cs : List Value} (h : RowAt w a cs) (hne : cs ≠ []) : ∃ g o, a = some ⟨g, o, none⟩ ∧ ∀ j x, cs[j]? = some x → w.cell? ⟨g, o + j, none⟩ = some x := by
  rcases h with h | h
  · exact absurd h hne
  · exact h
theorem RowAt.owns {w : World} {B : Nat} {t : TypeId} {k n m c : Nat} {a : Option Addr} {xs : List Value} (h : w.ownsRow B t k (.slice a m c) n xs) : RowAt w a xs := by
  rcases h.2 with ⟨e, hn⟩ | ⟨g, cap, cur, e, _⟩
  · have := h.1
    rw [hn] at this
    exact .inl (List.eq_nil_of_length_eq_zero (by simpa using this))
  · cases e
    exact .inr ⟨g, 0, rfl, fun j x hj => by rw [Nat.zero_add, ← addr_add0]; exact h.cells (g := g) rfl j x hj⟩
theorem flat_length {α : Type} (f : α → List Value) (k : Nat) (h : ∀ x, (f x).length = k) (l : List α) : (l.flatMap f).length = l.length * k := by
  induction l with
  | nil => simp
  | cons a l ih => simp only [List.flatMap_cons, List.length_append, ih, h, List.length_cons, Nat.succ_mul]; omega
theorem flat_get {α : Type} (f : α → List Value) (k : Nat) (h : ∀ x, (f x).length = k) (l : List α) : ∀ (i : Nat) (hi : i < l.length) (j : Nat), j < k → (l.flatMap f)[i * k + j]? = (f l[i])[j]? := by
  induction l with
  | nil => intro i hi; simp at hi
  | cons a l ih =>
    intro i hi j hj
    rw [List.flatMap_cons]
    cases i with
    | zero => rw [List.getElem?_append_left (by rw [h]; omega)]; simp
    | succ i =>
      have e : (i + 1) * k + j = k + (i * k + j) := by rw [Nat.succ_mul]; omega
      rw [List.getElem?_append_right (by rw [h]; omega), h, e, Nat.add_sub_cancel_left]
      exact ih i (by simpa using hi) j hj

/-! ### the rows of a container -/
def tcell (s : ByteArray) : List Value := [.string s]
def pcell (p : Int × Int) : List Value := [.int .i64 p.1, .int .i64 p.2]
def ecell (p : ByteArray × ByteArray) : List Value := [.string p.1, .string p.2]
def tcells (l : List ByteArray) : List Value := l.flatMap tcell
def pcells (l : List (Int × Int)) : List Value := l.flatMap pcell
def ecells (l : List (ByteArray × ByteArray)) : List Value := l.flatMap ecell
/-- A container, with where its rows lie. -/
structure CM where
  c : Ct
  ca : Option Addr
  cc : Nat
  pa : Option Addr
  pc : Nat
  ea : Option Addr
  ec : Nat
def CM.cells (m : CM) : List Value := [.string m.c.name, .string m.c.image, .slice m.ca m.c.cmd.length m.cc, .slice m.pa m.c.ports.length m.pc, .int .i64 m.c.cpu, .int .i64 m.c.mem, .slice m.ea m.c.env.length m.ec]
def CM.val (m : CM) : Value := .agg #[.string m.c.name, .string m.c.image, .slice m.ca m.c.cmd.length m.cc, .slice m.pa m.c.ports.length m.pc, .int .i64 m.c.cpu, .int .i64 m.c.mem, .slice m.ea m.c.env.length m.ec]
/-- Its rows lie in memory; nothing of it is great. -/
structure CM.In (w : World) (m : CM) : Prop where
  cmd : RowAt w m.ca (tcells m.c.cmd)
  ports : RowAt w m.pa (pcells m.c.ports)
  env : RowAt w m.ea (ecells m.c.env)
  room : m.c.ports.length ≤ m.pc
theorem CM.In.move {w w' : World} {m : CM} (h : m.In w) (f : Fresh w w') : m.In w' := ⟨h.cmd.move f, h.ports.move f, h.env.move f, h.room⟩
/-- Not great. -/
structure Ct.Low (c : Ct) : Prop where
  name : c.name.size ≤ 1048576
  image : c.image.size ≤ 1048576
  lc : c.cmd.length ≤ 1048576
  lp : c.ports.length ≤ 1048576
  le : c.env.length ≤ 1048576
  cmd : ∀ s ∈ c.cmd, s.size ≤ 1048576
  env : ∀ v ∈ c.env, v.1.size ≤ 1048576 ∧ v.2.size ≤ 1048576
  icpu : (Lit.int .i64 c.cpu).wf = true
  imem : (Lit.int .i64 c.mem).wf = true
  ip : ∀ p ∈ c.ports, (Lit.int .i64 p.1).wf = true ∧ (Lit.int .i64 p.2).wf = true
def ccells (l : List CM) : List Value := l.flatMap CM.cells
/-- A pod, with where its containers lie. -/
structure PM where
  name : ByteArray
  ns : ByteArray
  restart : Int
  grace : Int
  host : Bool
  a : Option Addr
  cap : Nat
  cs : List CM
def PM.pd (p : PM) : Pd := ⟨p.name, p.ns, p.restart, p.grace, p.host, p.cs.map (·.c)⟩
def PM.val (p : PM) : Value := .agg #[.string p.name, .string p.ns, .int .i64 p.restart, .int .i64 p.grace, .bool p.host, .slice p.a p.cs.length p.cap]
structure PM.At (w : World) (p : PM) : Prop where
  row : RowAt w p.a (ccells p.cs)
  ins : ∀ m ∈ p.cs, m.In w
  le : p.cs.length ≤ p.cap
theorem PM.At.move {w w' : World} {p : PM} (h : p.At w) (f : Fresh w w') : p.At w' := ⟨h.row.move f, fun m hm => (h.ins m hm).move f, h.le⟩
structure PM.Low (p : PM) : Prop where
  name : p.name.size ≤ 1048576
  ns : p.ns.size ≤ 1048576
  ir : (Lit.int .i64 p.restart).wf = true
  ig : (Lit.int .i64 p.grace).wf = true
  len : p.cs.length ≤ 1048576
  cs : ∀ m ∈ p.cs, m.c.Low

/-! ### what lies at a place -/
theorem tcells_len (l : List ByteArray) : (tcells l).length = l.length := by rw [tcells, flat_length tcell 1 (fun _ => rfl)]; omega
theorem pcells_len (l : List (Int × Int)) : (pcells l).length = l.length * 2 := flat_length pcell 2 (fun _ => rfl) l
theorem ecells_len (l : List (ByteArray × ByteArray)) : (ecells l).length = l.length * 2 := flat_length ecell 2 (fun _ => rfl) l
theorem ccells_len (l : List CM) : (ccells l).length = l.length * 7 := flat_length CM.cells 7 (fun _ => rfl) l
theorem tcells_ne {l : List ByteArray} {i : Nat} (h : i < l.length) : tcells l ≠ [] := fun e => by
  have := tcells_len l
  rw [e] at this
  simp at this; omega
theorem pcells_ne {l : List (Int × Int)} {i : Nat} (h : i < l.length) : pcells l ≠ [] := fun e => by
  have := pcells_len l
  rw [e] at this
  simp at this; omega
theorem ecells_ne {l : List (ByteArray × ByteArray)} {i : Nat} (h : i < l.length) : ecells l ≠ [] := fun e => by
  have := ecells_len l
  rw [e] at this
  simp at this; omega
theorem ccells_ne {l : List CM} {i : Nat} (h : i < l.length) : ccells l ≠ [] := fun e => by
  have := ccells_len l
  rw [e] at this
  simp at this; omega
theorem trow_form {w : World} {a : Option Addr} {l : List ByteArray} (h : RowAt w a (tcells l)) {i0 : Nat} (h0 : i0 < l.length) : ∃ g o, a = some ⟨g, o, none⟩ ∧ ∀ i (hi : i < l.length), w.cell? ⟨g, o + i, none⟩ = some (.string l[i]) := by
  obtain ⟨g, o, e, h⟩ := h.form (tcells_ne h0)
  refine ⟨g, o, e, fun i hi => h i _ ?_⟩
  have := flat_get tcell 1 (fun _ => rfl) l i hi 0 (by omega)
  rw [Nat.mul_one, Nat.add_zero] at this
  exact this
theorem prow_form {w : World} {a : Option Addr} {l : List (Int × Int)} (h : RowAt w a (pcells l)) {i0 : Nat} (h0 : i0 < l.length) : ∃ g o, a = some ⟨g, o, none⟩ ∧ ∀ i (hi : i < l.length), w.cell? ⟨g, o + i * 2, none⟩ = some (.int .i64 l[i].1) ∧ w.cell? ⟨g, o + i * 2 + 1, none⟩ = some (.int .i64 l[i].2) := by
  obtain ⟨g, o, e, h⟩ := h.form (pcells_ne h0)
  refine ⟨g, o, e, fun i hi => ⟨h _ _ ?_, ?_⟩⟩
  · exact flat_get pcell 2 (fun _ => rfl) l i hi 0 (by omega)
  · have := h _ _ (flat_get pcell 2 (fun _ => rfl) l i hi 1 (by omega))
    rw [Nat.add_assoc]; exact this
theorem erow_form {w : World} {a : Option Addr} {l : List (ByteArray × ByteArray)} (h : RowAt w a (ecells l)) {i0 : Nat} (h0 : i0 < l.length) : ∃ g o, a = some ⟨g, o, none⟩ ∧ ∀ i (hi : i < l.length), w.cell? ⟨g, o + i * 2, none⟩ = some (.string l[i].1) ∧ w.cell? ⟨g, o + i * 2 + 1, none⟩ = some (.string l[i].2) := by
  obtain ⟨g, o, e, h⟩ := h.form (ecells_ne h0)
  refine ⟨g, o, e, fun i hi => ⟨h _ _ ?_, ?_⟩⟩
  · exact flat_get ecell 2 (fun _ => rfl) l i hi 0 (by omega)
  · have := h _ _ (flat_get ecell 2 (fun _ => rfl) l i hi 1 (by omega))
    rw [Nat.add_assoc]; exact this
/-- The seven cells of a container at a place. -/
def CM.lies (w : World) (g o : Nat) (m : CM) : Prop :=
  w.cell? ⟨g, o, none⟩ = some (.string m.c.name) ∧ w.cell? ⟨g, o + 1, none⟩ = some (.string m.c.image) ∧ w.cell? ⟨g, o + 2, none⟩ = some (.slice m.ca m.c.cmd.length m.cc) ∧ w.cell? ⟨g, o + 3, none⟩ = some (.slice m.pa m.c.ports.length m.pc) ∧
  w.cell? ⟨g, o + 4, none⟩ = some (.int .i64 m.c.cpu) ∧ w.cell? ⟨g, o + 5, none⟩ = some (.int .i64 m.c.mem) ∧ w.cell? ⟨g, o + 6, none⟩ = some (.slice m.ea m.c.env.length m.ec)
theorem crow_form {w : World} {a : Option Addr} {l : List CM} (h : RowAt w a (ccells l)) {i0 : Nat} (h0 : i0 < l.length) : ∃ g o, a = some ⟨g, o, none⟩ ∧ ∀ i (hi : i < l.length), l[i].lies w g (o + i * 7) := by
  obtain ⟨g, o, e, h⟩ := h.form (ccells_ne h0)
  have each : ∀ i (hi : i < l.length) j x, j < 7 → l[i].cells[j]? = some x → w.cell? ⟨g, o + i * 7 + j, none⟩ = some x := fun i hi j x hj hx => by
    have := h _ _ ((flat_get CM.cells 7 (fun _ => rfl) l i hi j hj).trans hx)
    rw [Nat.add_assoc]; exact this
  exact ⟨g, o, e, fun i hi => ⟨each i hi 0 _ (by omega) rfl, each i hi 1 _ (by omega) rfl, each i hi 2 _ (by omega) rfl, each i hi 3 _ (by omega) rfl, each i hi 4 _ (by omega) rfl, each i hi 5 _ (by omega) rfl, each i hi 6 _ (by omega) rfl⟩⟩
/-- A container in a block of its own. -/
theorem box7 {w : World} {b t : Nat} {z : Nat × Nat} {m : CM} (h : w.heap[b]? = some (.cells #[.string m.c.name, .string m.c.image, .slice m.ca m.c.cmd.length m.cc, .slice m.pa m.c.ports.length m.pc, .int .i64 m.c.cpu, .int .i64 m.c.mem, .slice m.ea m.c.env.length m.ec] t z)) : m.lies w b 0 :=
  ⟨cell_of_at h rfl, cell_of_at h rfl, cell_of_at h rfl, cell_of_at h rfl, cell_of_at h rfl, cell_of_at h rfl, cell_of_at h rfl⟩
end Go.Proofs.YtldncgelghcjeaaGreatDoor
namespace Go.Proofs.YtldncgelghcjeaaGreatDoor
open Go.ChangeShapes Go.WideShapes Go.ChangeAt Go.RowKit
theorem fresh_drewN (w : World) (n : Nat) : Fresh w (w.drewN n) := ⟨rfl, rfl, rfl, Nat.le_refl _, fun _ _ => rfl⟩
/-- Texts, as they are compared. -/
theorem tl_ne {x y : ByteArray} (h : ¬ x = y) : (x.toList == y.toList) = false := by
  rw [beq_eq_false_iff_ne]
  intro e
  rw [Lib.toList_data, Lib.toList_data] at e
  exact h (ByteArray.ext (Array.toList_inj.1 e))
theorem tl_dec (x y : ByteArray) : (x.toList == y.toList) = decide (x = y) := by
  by_cases h : x = y
  · subst h; simp
  · rw [tl_ne h, decide_eq_false h]
theorem lists_eq {α : Type} {l m : List α} (h : l.length = m.length) (k : ∀ j (h1 : j < l.length) (h2 : j < m.length), l[j] = m[j]) : l = m :=
  List.ext_getElem h fun j h1 h2 => k j h1 h2
set_option maxRecDepth 100000 in
set_option maxHeartbeats 1000000 in
theorem rtexts_any (l m : List ByteArray) (a b : Option Addr) (ca cb : Nat) (w : World) (ha : RowAt w a (tcells l)) (hb : RowAt w b (tcells m)) (hl : l.length ≤ 4000000) (hm : m.length ≤ 4000000) :
    Calls Tryz.prog 55 #[.slice a l.length ca, .slice b m.length cb] w fun e w' => e = .returned (.bool (decide (l = m))) ∧ Fresh w w' := by
  by_cases hlen : l.length = m.length
  · have HA := Lib.hid ha
    have HB := Lib.hid hb
    have HLEN := Lib.hid hlen
    clear ha hb
    rw [← hlen]
    clear hlen
    go_enter Tryz.func55, Tryz.ntmps55
    go_wp2
    go_loopw [5] (fun a5 wr => ∃ (k : Nat), a5 = .int .i64 (k : Int) ∧ k ≤ l.length ∧ Hid (Fresh w wr) ∧ Hid (∀ j (h1 : j < l.length) (h2 : j < m.length), j < k → l[j] = m[j])) (fun a5 _ => l.length - (intOf a5).toNat)
    case atStart => exact ⟨0, rfl, Nat.zero_le _, Fresh.refl _, fun _ _ _ h => absurd h (Nat.not_lt_zero _)⟩
    case round =>
      obtain ⟨k, rfl, hk, HF, HE⟩ := hrel
      by_cases hlt : k < l.length
      · have hlt2 : k < m.length := by rw [← HLEN.out]; exact hlt
        obtain ⟨g1, o1, rfl, hc1⟩ := trow_form (HA.out.move HF.out) hlt
        obtain ⟨g2, o2, rfl, hc2⟩ := trow_form (HB.out.move HF.out) hlt2
        have c1 := hc1 k hlt
        have c2 := hc2 k hlt2
        clear hc1 hc2
        have HNO : Hid (l[k] ≠ m[k] → decide (l = m) = false) := fun h => by
          rw [decide_eq_false_iff_not]
          intro e
          subst e
          exact h rfl
        have HYES : Hid (l[k] = m[k] → ∀ j (h1 : j < l.length) (h2 : j < m.length), j < k + 1 → l[j] = m[j]) := fun h j h1 h2 hj => by
          rcases Nat.lt_or_ge j k with h3 | h3
          · exact HE.out j h1 h2 h3
          · obtain rfl : j = k := by omega
            exact h
        generalize l[k] = x at *
        generalize m[k] = y at *
        by_cases hxy : x = y
        · have HY2 := Lib.hid (HYES.out hxy)
          clear HYES HNO
          subst hxy
          go_wp2_with (fail)
          go_quiet (fail)
          go_wp2
          all_goals try (exfalso; omega)
          go_roundw
          case rel => exact ⟨k + 1, by simp, by omega, HF.out.trans (fresh_drewN _ _), HY2.out⟩
          case measure => simp [intOf]; omega
        · have HN2 := Lib.hid (HNO.out hxy)
          clear HYES HNO
          have e0 := tl_ne hxy
          go_wp2_with (fail)
          go_quiet (fail)
          go_wp2
          all_goals try (exfalso; omega)
          go_ret
          exact ⟨ret_bool HN2.out.symm, HF.out.trans (fresh_drewN _ _)⟩
      · obtain rfl : k = l.length := by omega
        have HR : Hid (decide (l = m) = true) := by
          rw [Hid, decide_eq_true_eq]
          exact lists_eq HLEN.out (fun j h1 h2 => HE.out j h1 h2 h1)
        go_wp2
        all_goals try (exfalso; omega)
        go_ret
        exact ⟨ret_bool HR.out.symm, HF.out⟩
  · have HR : Hid (decide (l = m) = false) := by
      rw [Hid, decide_eq_false_iff_not]
      intro e
      exact hlen (by rw [e])
    go_enter Tryz.func55, Tryz.ntmps55
    go_wp2
    all_goals try (exfalso; omega)
    go_ret
    exact ⟨ret_bool HR.out.symm, Fresh.refl _⟩
end Go.Proofs.YtldncgelghcjeaaGreatDoor
namespace Go.Proofs.YtldncgelghcjeaaGreatDoor
open Go.ChangeShapes Go.WideShapes Go.ChangeAt Go.RowKit

theorem Fresh.grownBy' {w w' : World} (hf : Fresh w w') (row : Option Nat) : w.grownBy w' row := ⟨hf.os, hf.tape, hf.output, hf.size, fun k hk _ => hf.block k hk⟩
theorem at_set {W : World} {b : Nat} {cs : Array Value} {t : TypeId} {z : Nat × Nat} (h : W.heap[b]? = some (.cells cs t z)) (i : Nat) (v : Value) : (W.setCell ⟨b, i, none⟩ v).heap[b]? = some (.cells (cs.setIfInBounds i v) t z) := by
  simp [World.setCell, Array.getElem?_modify, h]
theorem own_le {w : World} {B : Nat} {t : TypeId} {k n c : Nat} {o : Option Addr} {xs : List Value} (h : w.ownsRow B t k (.slice o n c) n xs) : n ≤ c := by
  rcases h.2 with ⟨e, hn⟩ | ⟨g, cap, cur, e, _, _, hn, _⟩
  · cases e; omega
  · cases e; exact hn
theorem news7 (w : World) (t : Nat) (l : List Value) : ∀ j u, l[j]? = some u → (w.alloc (.cells l.toArray t)).cell? ((⟨w.heap.size, 0, none⟩ : Addr).add j) = some u := fun j u hj => by
  rw [addr_add0]
  exact cell_of_at (at_new w (.cells l.toArray t)) (by simpa using hj)
theorem RowAt.set {w : World} {a : Option Addr} {cs : List Value} (h : RowAt w a cs) {p : Addr} (hp : ∀ ad : Addr, a = some ad → ad.block ≠ p.block) (v : Value) : RowAt (w.setCell p v) a cs := by
  rcases h with h | ⟨g, o, e, h⟩
  · exact .inl h
  · refine .inr ⟨g, o, e, fun j x hj => ?_⟩
    rw [World.cell?_setCell_other (a := p) (b := ⟨g, o + j, none⟩) (h := fun e2 => hp ⟨g, o, none⟩ e (by rw [e2]))]
    exact h j x hj
theorem tl_some {s : ByteArray} (h : ¬ s = ⟨#[]⟩) : s.toList.isEmpty = false := by
  rw [Lib.toList_data]
  cases hs : s.data.toList with
  | nil => exact absurd (ByteArray.ext (Array.toList_inj.1 hs)) h
  | cons a l => rfl
theorem own_ne {W : World} {B B' : Nat} {e e' k k' n n' : Nat} {v v' : Value} {xs xs' : List Value} (h : W.ownsRow B e k v n xs) (h' : W.ownsRow B' e' k' v' n' xs') (hne : e ≠ e') : v.ownBlock = none ∨ v.ownBlock ≠ v'.ownBlock := by
  rcases h.2 with ⟨rfl, _⟩ | ⟨g, cap, cur, rfl, _, hg, _⟩
  · exact .inl rfl
  · refine .inr fun e2 => ?_
    rcases h'.2 with ⟨rfl, _⟩ | ⟨g', cap', cur', rfl, _, hg', _⟩
    · cases e2
    · have : g = g' := by simpa [Value.ownBlock] using e2
      subst this
      rw [hg] at hg'
      cases hg'
      exact hne rfl
theorem own_fresh {W W' : World} {B e k n : Nat} {v : Value} {xs : List Value} (h : W.ownsRow B e k v n xs) (f : Fresh W W') : W'.ownsRow B e k v n xs := by
  refine World.ownsRow.kept (row := none) h (f.grownBy' none) ?_
  rcases h' : v.ownBlock with _ | g
  · exact .inl rfl
  · exact .inr (by simp)
theorem own_set {W : World} {B e k n : Nat} {v : Value} {xs : List Value} (h : W.ownsRow B e k v n xs) {p : Addr} (hp : p.block < B) (u : Value) : (W.setCell ⟨p.block, p.off, none⟩ u).ownsRow B e k v n xs := by
  refine World.ownsRow.kept h (grown_set W p.block p.off u) ?_
  rcases h' : v.ownBlock with _ | g
  · exact .inl rfl
  · refine .inr fun e2 => ?_
    have := (World.ownsRow.lt h g h').1
    have e3 : g = p.block := by simpa using e2
    omega
theorem at_off {W : World} {b : Nat} {o : Obj} (h : W.heap[b]? = some o) {g i : Nat} (hne : b ≠ g) (v : Value) : (W.setCell ⟨g, i, none⟩ v).heap[b]? = some o := by
  rw [(grown_set W g i v).block b (lt_of_at h) (fun e => hne (by cases e; rfl))]; exact h
theorem row_shape2 {w : World} {B e k n : Nat} {v : Value} {xs : List Value} (h : w.ownsRow B e k v n xs) : ∃ o c, v = .slice o n c := by
  rcases h.2 with ⟨h1, h2⟩ | ⟨g, cap, c2, h1, _⟩
  · exact ⟨none, 0, by rw [h1, h2]⟩
  · exact ⟨_, _, h1⟩
theorem own_type {W : World} {B e k n : Nat} {v : Value} {xs : List Value} (h : W.ownsRow B e k v n xs) {z t : Nat} {cs : Array Value} {fz : Nat × Nat} (hz : W.heap[z]? = some (.cells cs t fz)) (hne : e ≠ t) (i : Nat) (u : Value) : (W.setCell ⟨z, i, none⟩ u).ownsRow B e k v n xs := by
  refine World.ownsRow.kept h (grown_set W z i u) ?_
  rcases h.2 with ⟨rfl, _⟩ | ⟨g, cap, cur, rfl, _, hg, _⟩
  · exact .inl rfl
  · refine .inr fun e2 => ?_
    have : g = z := by simpa [Value.ownBlock] using e2
    subst this
    rw [hg] at hz
    cases hz
    exact hne rfl
theorem two_boxes (w : World) (o p : Obj) : ((w.alloc o).alloc p).heap[w.heap.size]? = some o ∧ ((w.alloc o).alloc p).heap[w.heap.size + 1]? = some p ∧ Fresh w ((w.alloc o).alloc p) ∧ ((w.alloc o).alloc p).heap.size = w.heap.size + 2 :=
  ⟨at_alloc (at_new w o), by have := at_new (w.alloc o) p; rw [World.size_alloc] at this; exact this, ((Fresh.refl w).alloc _).alloc _, by simp⟩
theorem frozen_of_at {w : World} {b : Nat} {cs : Array Value} {t : TypeId} (h : w.heap[b]? = some (.cells cs t)) (i : Nat) : w.frozen? ⟨b, i, none⟩ = false := by simp [World.frozen?, h]
theorem list_ext {a b : ByteArray} (h : a.data.toList = b.data.toList) : a = b := ByteArray.ext (Array.toList_inj.1 h)
theorem app_list (a b : ByteArray) : (a ++ b).data.toList = a.data.toList ++ b.data.toList := by
  cases a; cases b; rw [ByteArray.mk_append_mk]
theorem tx_app (l m : List UInt8) : tx l ++ tx m = tx (l ++ m) := by
  apply ByteArray.ext
  simp [tx]
end Go.Proofs.YtldncgelghcjeaaGreatDoor
namespace Go.Proofs.YtldncgelghcjeaaGreatDoor.K
open Go.ChangeShapes Go.WideShapes Go.ChangeAt Go.RowKit

theorem no_case {x : Bool} {C : Prop} (h : (!x) = true) (e : x = true) : C := by subst e; exact absurd h (by decide)
theorem all_done : ∀ d0 d1 d2 d3 d4 d5 d6 d7 : Bool, (!d0).toNat + (!d1).toNat + (!d2).toNat + (!d3).toNat + (!d4).toNat + (!d5).toNat + (!d6).toNat + (!d7).toNat ≤ 0 → (d0 && d1 && d2 && d3 && d4 && d5 && d6 && d7) = true := by decide +kernel
section
variable {P : Program} {Q : Exit → Act → World → Prop}
theorem wpOp_of {ops : Array Oper} {i : Nat} {o : Oper} {K : Act → World → Prop} {a : Act} {w : World} (hi : ops[i]? = some o) (hg : o.guard = none) (h : o.wp P a w K Q) : wpOp P ops Q i K a w := by
  unfold wpOp
  simp only [hi]
  rw [if_pos (by simp [Region.wanted, hg])]
  exact .inl h
theorem wpOp_run {ops : Array Oper} {i : Nat} {o : Oper} {K : Act → World → Prop} {b : Act} {w w' : World} {v : Value} (hi : ops[i]? = some o) (hg : o.guard = none) (hr : (execOp b.eval o).run P w = .ok (.value v) w') (h : K (b.put o.dst v) w') : wpOp P ops Q i K b w := by
  refine wpOp_of hi hg ?_
  unfold Oper.wp
  rw [hr]
  exact h
theorem wpOp_skip {ops : Array Oper} {i : Nat} {o : Oper} {K : Act → World → Prop} {b : Act} {w w' : World} (hi : ops[i]? = some o) (hg : o.guard = none) (hd : o.dst = none) (hr : (execOp b.eval o).run P w = .ok .skip w') (h : K b w') : wpOp P ops Q i K b w := by
  refine wpOp_of hi hg ?_
  unfold Oper.wp
  rw [hr, Oper.upon_skip, hd]
  exact h
theorem wpOp_call2 {ops : Array Oper} {i : Nat} {o : Oper} {K : Act → World → Prop} {b : Act} {w : World} {f : FuncId} {args : Array Value} (hi : ops[i]? = some o) (hg : o.guard = none) (hr : (execOp b.eval o).run P w = .ok (.enter f args) w)
    {R : Ending → World → Prop} (hc : Calls P f args w R) (h : ∀ e w', R e w' → ∃ v, e = .returned v ∧ K (b.put o.dst v) w') : wpOp P ops Q i K b w := by
  refine wpOp_of hi hg ?_
  unfold Oper.wp
  rw [hr, Oper.upon_enter]
  refine hc.mono ?_
  intro e w' he
  obtain ⟨v, rfl, hk⟩ := h e w' he
  exact hk
theorem ev_same {a : Act} {d : Nat} {v : Value} (h : d < a.tmps.size) : (a.put (some d) v).eval (.tmp d) = v := by
  simp [Act.put, Act.eval, h]
theorem ev_ne {a : Act} {d t : Nat} {v : Value} (h : d ≠ t) : (a.put (some d) v).eval (.tmp t) = a.eval (.tmp t) := by
  simp [Act.put, Act.eval, Array.getD_eq_getD_getElem?, h]
theorem put_size {a : Act} {d : Option Nat} {v : Value} : (a.put d v).tmps.size = a.tmps.size := by
  cases d <;> simp [Act.put]
theorem put_defers {a : Act} {d : Option Nat} {v : Value} : (a.put d v).defers = a.defers := by
  cases d <;> simp [Act.put]
theorem ev_get {a : Act} {t : Nat} {v : Value} (h : a.eval (.tmp t) = v) : a.tmps[t]?.getD undef = v := by
  rw [← h]; simp [Act.eval]
/-- Eight operations in whatever order, by what holds between them. -/
theorem any8 {ops : Array Oper} (I : Bool → Bool → Bool → Bool → Bool → Bool → Bool → Bool → Act → World → Prop)
    (hend : ∀ d0 d1 d2 d3 d4 d5 d6 d7 a w, I d0 d1 d2 d3 d4 d5 d6 d7 a w → Region.ready .any ops #[d0, d1, d2, d3, d4, d5, d6, d7] = [] → Q .normal a w)
    (hlt : ∀ d0 d1 d2 d3 d4 d5 d6 d7 k, k ∈ Region.ready .any ops #[d0, d1, d2, d3, d4, d5, d6, d7] → k < 8)
    (hall : Region.ready .any ops #[true, true, true, true, true, true, true, true] = [])
    (h0 : ∀ d0 d1 d2 d3 d4 d5 d6 d7 a w, I d0 d1 d2 d3 d4 d5 d6 d7 a w → 0 ∈ Region.ready .any ops #[d0, d1, d2, d3, d4, d5, d6, d7] → wpOp P ops Q 0 (I true d1 d2 d3 d4 d5 d6 d7) a w)
    (h1 : ∀ d0 d1 d2 d3 d4 d5 d6 d7 a w, I d0 d1 d2 d3 d4 d5 d6 d7 a w → 1 ∈ Region.ready .any ops #[d0, d1, d2, d3, d4, d5, d6, d7] → wpOp P ops Q 1 (I d0 true d2 d3 d4 d5 d6 d7) a w)
    (h2 : ∀ d0 d1 d2 d3 d4 d5 d6 d7 a w, I d0 d1 d2 d3 d4 d5 d6 d7 a w → 2 ∈ Region.ready .any ops #[d0, d1, d2, d3, d4, d5, d6, d7] → wpOp P ops Q 2 (I d0 d1 true d3 d4 d5 d6 d7) a w)
    (h3 : ∀ d0 d1 d2 d3 d4 d5 d6 d7 a w, I d0 d1 d2 d3 d4 d5 d6 d7 a w → 3 ∈ Region.ready .any ops #[d0, d1, d2, d3, d4, d5, d6, d7] → wpOp P ops Q 3 (I d0 d1 d2 true d4 d5 d6 d7) a w)
    (h4 : ∀ d0 d1 d2 d3 d4 d5 d6 d7 a w, I d0 d1 d2 d3 d4 d5 d6 d7 a w → 4 ∈ Region.ready .any ops #[d0, d1, d2, d3, d4, d5, d6, d7] → wpOp P ops Q 4 (I d0 d1 d2 d3 true d5 d6 d7) a w)
    (h5 : ∀ d0 d1 d2 d3 d4 d5 d6 d7 a w, I d0 d1 d2 d3 d4 d5 d6 d7 a w → 5 ∈ Region.ready .any ops #[d0, d1, d2, d3, d4, d5, d6, d7] → wpOp P ops Q 5 (I d0 d1 d2 d3 d4 true d6 d7) a w)
    (h6 : ∀ d0 d1 d2 d3 d4 d5 d6 d7 a w, I d0 d1 d2 d3 d4 d5 d6 d7 a w → 6 ∈ Region.ready .any ops #[d0, d1, d2, d3, d4, d5, d6, d7] → wpOp P ops Q 6 (I d0 d1 d2 d3 d4 d5 true d7) a w)
    (h7 : ∀ d0 d1 d2 d3 d4 d5 d6 d7 a w, I d0 d1 d2 d3 d4 d5 d6 d7 a w → 7 ∈ Region.ready .any ops #[d0, d1, d2, d3, d4, d5, d6, d7] → wpOp P ops Q 7 (I d0 d1 d2 d3 d4 d5 d6 true) a w)
    : ∀ (f : Nat) (d0 d1 d2 d3 d4 d5 d6 d7 : Bool) (a : Act) (w : World), (!d0).toNat + (!d1).toNat + (!d2).toNat + (!d3).toNat + (!d4).toNat + (!d5).toNat + (!d6).toNat + (!d7).toNat ≤ f → I d0 d1 d2 d3 d4 d5 d6 d7 a w → wpAny P .any ops Q f #[d0, d1, d2, d3, d4, d5, d6, d7] a w := by
  intro f
  induction f with
  | zero =>
    intro d0 d1 d2 d3 d4 d5 d6 d7 a w hf h
    have hd := all_done _ _ _ _ _ _ _ _ hf
    simp only [Bool.and_eq_true] at hd
    obtain ⟨⟨⟨⟨⟨⟨⟨rfl, rfl⟩, rfl⟩, rfl⟩, rfl⟩, rfl⟩, rfl⟩, rfl⟩ := hd
    exact ⟨hall, hend _ _ _ _ _ _ _ _ a w h hall⟩
  | succ f ih =>
    intro d0 d1 d2 d3 d4 d5 d6 d7 a w hf h
    refine ⟨fun e => hend _ _ _ _ _ _ _ _ a w h e, fun k hk => ?_⟩
    have hk8 := hlt _ _ _ _ _ _ _ _ k hk
    have hkd := (mem_ready.1 hk).1
    match k, hk8 with
    | 0, _ =>
      refine wpOp_mono (fun b u h2 => ?_) (h0 _ _ _ _ _ _ _ _ a w h hk)
      refine ih _ _ _ _ _ _ _ _ b u ?_ h2
      have hd : d0 = false := by simpa using hkd
      subst hd
      simp only [Bool.not_false, Bool.not_true, Bool.toNat_true, Bool.toNat_false] at hf ⊢
      omega
    | 1, _ =>
      refine wpOp_mono (fun b u h2 => ?_) (h1 _ _ _ _ _ _ _ _ a w h hk)
      refine ih _ _ _ _ _ _ _ _ b u ?_ h2
      have hd : d1 = false := by simpa using hkd
      subst hd
      simp only [Bool.not_false, Bool.not_true, Bool.toNat_true, Bool.toNat_false] at hf ⊢
      omega
    | 2, _ =>
      refine wpOp_mono (fun b u h2 => ?_) (h2 _ _ _ _ _ _ _ _ a w h hk)
      refine ih _ _ _ _ _ _ _ _ b u ?_ h2
      have hd : d2 = false := by simpa using hkd
      subst hd
      simp only [Bool.not_false, Bool.not_true, Bool.toNat_true, Bool.toNat_false] at hf ⊢
      omega
    | 3, _ =>
      refine wpOp_mono (fun b u h2 => ?_) (h3 _ _ _ _ _ _ _ _ a w h hk)
      refine ih _ _ _ _ _ _ _ _ b u ?_ h2
      have hd : d3 = false := by simpa using hkd
      subst hd
      simp only [Bool.not_false, Bool.not_true, Bool.toNat_true, Bool.toNat_false] at hf ⊢
      omega
    | 4, _ =>
      refine wpOp_mono (fun b u h2 => ?_) (h4 _ _ _ _ _ _ _ _ a w h hk)
      refine ih _ _ _ _ _ _ _ _ b u ?_ h2
      have hd : d4 = false := by simpa using hkd
      subst hd
      simp only [Bool.not_false, Bool.not_true, Bool.toNat_true, Bool.toNat_false] at hf ⊢
      omega
    | 5, _ =>
      refine wpOp_mono (fun b u h2 => ?_) (h5 _ _ _ _ _ _ _ _ a w h hk)
      refine ih _ _ _ _ _ _ _ _ b u ?_ h2
      have hd : d5 = false := by simpa using hkd
      subst hd
      simp only [Bool.not_false, Bool.not_true, Bool.toNat_true, Bool.toNat_false] at hf ⊢
      omega
    | 6, _ =>
      refine wpOp_mono (fun b u h2 => ?_) (h6 _ _ _ _ _ _ _ _ a w h hk)
      refine ih _ _ _ _ _ _ _ _ b u ?_ h2
      have hd : d6 = false := by simpa using hkd
      subst hd
      simp only [Bool.not_false, Bool.not_true, Bool.toNat_true, Bool.toNat_false] at hf ⊢
      omega
    | 7, _ =>
      refine wpOp_mono (fun b u h2 => ?_) (h7 _ _ _ _ _ _ _ _ a w h hk)
      refine ih _ _ _ _ _ _ _ _ b u ?_ h2
      have hd : d7 = false := by simpa using hkd
      subst hd
      simp only [Bool.not_false, Bool.not_true, Bool.toNat_true, Bool.toNat_false] at hf ⊢
      omega
end
end Go.Proofs.YtldncgelghcjeaaGreatDoor.K
namespace Go.Proofs.YtldncgelghcjeaaGreatDoor.K
open Go.ChangeShapes Go.WideShapes Go.ChangeAt Go.RowKit

theorem act_ext {a b : Act} (h1 : a.tmps.size = b.tmps.size) (h2 : a.defers = b.defers) (h3 : ∀ t, a.eval (.tmp t) = b.eval (.tmp t)) : a = b := by
  obtain ⟨ta, da⟩ := a
  obtain ⟨tb, db⟩ := b
  dsimp only at h1 h2
  subst h2
  have : ta = tb := by
    apply Array.ext h1
    intro i hi hj
    have := h3 i
    simpa [Act.eval, hi, hj] using this
  subst this; rfl
theorem countP_less {p q : Nat → Bool} : ∀ (l : List Nat), (∀ x ∈ l, q x = true → p x = true) → ∀ x ∈ l, p x = true → q x = false → l.countP q < l.countP p
  | [], _, _, h, _, _ => nomatch h
  | y :: l, h, x, hx, hp, hq => by
    have hm : l.countP q ≤ l.countP p := List.countP_mono_left (fun z hz => h z (List.mem_cons_of_mem _ hz))
    rcases List.mem_cons.1 hx with rfl | hx
    · rw [List.countP_cons_of_pos hp, List.countP_cons_of_neg (by simp [hq])]; omega
    · have ih := countP_less l (fun z hz => h z (List.mem_cons_of_mem _ hz)) x hx hp hq
      rw [List.countP_cons, List.countP_cons]
      have h1 := h y List.mem_cons_self
      cases e : q y with
      | false => simp only [Bool.false_eq_true, if_false]; omega
      | true => rw [h1 e]; omega
section
variable {P : Program} {Q : Exit → Act → World → Prop}

def FClosed (ops : Array Oper) (done : Array Bool) : Prop := ∀ k o, ops[k]? = some o → done.getD k false = true → ∀ e ∈ o.after, Region.binds .any e = true → done.getD e.on false = true
/-- Operation j waits for operation k, or for one that does. -/
def waits (ops : Array Oper) : Nat → Nat → Nat → Bool
  | 0, _, _ => false
  | n + 1, j, k => ((ops[j]?).map fun o => o.after.any fun e => Region.binds .any e && (e.on == k || waits ops n e.on k)).getD false
theorem waits_spec {ops : Array Oper} {k : Nat} {done : Array Bool} (hc : FClosed ops done) : ∀ (n j : Nat) (oj : Oper), waits ops n j k = true → ops[j]? = some oj → (∀ e ∈ oj.after, Region.binds .any e = true → done.getD e.on false = true) → done.getD k false = true
  | 0, _, _, h, _, _ => by cases h
  | n + 1, j, oj, h, hj, hall => by
    rw [waits, hj] at h
    simp only [Option.map_some, Option.getD_some] at h
    obtain ⟨e, he, hb⟩ := Array.any_eq_true'.1 h
    rw [Bool.and_eq_true, Bool.or_eq_true, beq_iff_eq] at hb
    have h2 := hall e he hb.1
    rcases hb.2 with h3 | h3
    · rw [← h3]; exact h2
    · cases hp : ops[e.on]? with
      | none =>
        cases n with
        | zero => cases h3
        | succ n => rw [waits, hp] at h3; cases h3
      | some p => exact waits_spec hc n e.on p h3 hp (fun e2 he2 hb2 => hc e.on p hp h2 e2 he2 hb2)
def dstOf (ops : Array Oper) (i : Nat) : Option Nat := (ops[i]?).bind (·.dst)
/-- Slot t is as it was when operation i comes up. -/
def stillB (ops : Array Oper) (i t : Nat) : Bool := (List.range ops.size).all fun j => !(dstOf ops j == some t) || j == i || waits ops 12 j i
/-- Each operation has a slot of its own, no guard, and waits for earlier ones alone. -/
def flowB (ops : Array Oper) (n : Nat) : Bool := (List.range ops.size).all fun i => ((ops[i]?).map fun o => o.guard.isNone && (match o.dst with | some d => decide (d < n) | none => false) && o.after.all (fun e => !Region.binds .any e || decide (e.on < i))).getD false && (List.range ops.size).all fun j => i == j || !(dstOf ops i == dstOf ops j)
theorem flow_oper {ops : Array Oper} {n i : Nat} {o : Oper} (h : flowB ops n = true) (hi : ops[i]? = some o) :
    o.guard = none ∧ (∃ d, o.dst = some d ∧ d < n) ∧ (∀ e ∈ o.after, Region.binds .any e = true → e.on < i) ∧ ∀ j, j < ops.size → i ≠ j → dstOf ops i ≠ dstOf ops j := by
  have hlt : i < ops.size := (Array.getElem?_eq_some_iff.1 hi).1
  have h1 := List.all_eq_true.1 h i (List.mem_range.2 hlt)
  rw [hi] at h1
  simp only [Option.map_some, Option.getD_some, Bool.and_eq_true] at h1
  obtain ⟨⟨⟨h2, h3⟩, h4⟩, h5⟩ := h1
  refine ⟨by simpa using h2, ?_, fun e he hb => ?_, fun j hj hne hd => ?_⟩
  · cases hd : o.dst with
    | none => rw [hd] at h3; cases h3
    | some d => rw [hd] at h3; exact ⟨d, rfl, by simpa using h3⟩
  · have := (Array.all_eq_true_iff_forall_mem.1 h4) e he
    rw [hb] at this
    simpa using this
  · have := List.all_eq_true.1 h5 j (List.mem_range.2 hj)
    rw [Bool.or_eq_true, beq_iff_eq] at this
    rcases this with e | e
    · exact hne e
    · rw [hd] at e; simp at e
/-- What holds while they come up. -/
structure Flow (ops : Array Oper) (R : Nat → Value → World → Prop) (A0 : Act) (w0 : World) (done : Array Bool) (a : Act) (w : World) : Prop where
  size : a.tmps.size = A0.tmps.size
  defers : a.defers = A0.defers
  fr : Fresh w0 w
  closed : FClosed ops done
  dsz : done.size = ops.size
  same : ∀ t, (∀ j, done.getD j false = true → dstOf ops j ≠ some t) → a.eval (.tmp t) = A0.eval (.tmp t)
  res : ∀ j d, done.getD j false = true → dstOf ops j = some d → R j (a.eval (.tmp d)) w
/-- What operation i does, whenever it comes up. -/
def FStep (P : Program) (ops : Array Oper) (R : Nat → Value → World → Prop) (A0 : Act) (w0 : World) (i : Nat) (o : Oper) : Prop :=
  ∀ (a : Act) (w : World), Fresh w0 w → (∀ j d, waits ops 12 i j = true → dstOf ops j = some d → R j (a.eval (.tmp d)) w) → (∀ t, stillB ops i t = true → a.eval (.tmp t) = A0.eval (.tmp t)) →
    (∃ v w', (execOp a.eval o).run P w = .ok (.value v) w' ∧ Fresh w w' ∧ R i v w') ∨ (∃ f args, (execOp a.eval o).run P w = .ok (.enter f args) w ∧ Calls P f args w fun e w' => ∃ v, e = .returned v ∧ Fresh w w' ∧ R i v w')
theorem getD_lt {done : Array Bool} {k : Nat} (h : done.getD k false = true) : k < done.size := by
  rcases Nat.lt_or_ge k done.size with h2 | h2
  · exact h2
  · simp [Array.getElem?_eq_none h2] at h
theorem all_of_ready {ops : Array Oper} {n : Nat} {done : Array Bool} (hb : flowB ops n = true) (hs : done.size = ops.size) (hr : Region.ready .any ops done = []) : ∀ i, i < ops.size → done.getD i false = true := by
  intro i
  induction i using Nat.strongRecOn with
  | _ i ih =>
    intro hi
    cases hd : done.getD i false with
    | true => rfl
    | false =>
      exfalso
      have hin : i ∈ Region.ready .any ops done := by
        refine mem_ready.2 ⟨?_, ops[i], Array.getElem?_eq_getElem hi, fun e he hbe => ?_⟩
        · have h2 : i < done.size := by omega
          simp [h2] at hd ⊢; exact hd
        · have := (flow_oper hb (Array.getElem?_eq_getElem hi)).2.2.1 e he hbe
          exact ih e.on this (by omega)
      rw [hr] at hin
      cases hin
theorem flow_any {ops : Array Oper} {R : Nat → Value → World → Prop} {A0 : Act} {w0 : World} (hb : flowB ops A0.tmps.size = true) (hst : ∀ i v w w', R i v w → Fresh w w' → R i v w')
    (hs : ∀ i o, ops[i]? = some o → FStep P ops R A0 w0 i o)
    (hQ : ∀ a w, Flow ops R A0 w0 (Array.replicate ops.size true) a w → Q .normal a w) :
    ∀ (f : Nat) (done : Array Bool) (a : Act) (w : World), Flow ops R A0 w0 done a w → (List.range ops.size).countP (fun j => !done.getD j true) ≤ f → wpAny P .any ops Q f done a w := by
  have hend : ∀ (done : Array Bool) (a : Act) (w : World), Flow ops R A0 w0 done a w → (∀ i, i < ops.size → done.getD i false = true) → Q .normal a w := fun done a w h hall => by
    refine hQ a w ?_
    have e : done = Array.replicate ops.size true := by
      apply Array.ext (by rw [h.dsz]; simp)
      intro i h1 h2
      have := hall i (by rw [← h.dsz]; exact h1)
      simpa [h1] using this
    rw [← e]; exact h
  intro f
  induction f with
  | zero =>
    intro done a w h hf
    have hall : ∀ i, i < ops.size → done.getD i false = true := fun i hi => by
      have h0 : (List.range ops.size).countP (fun j => !done.getD j true) = 0 := by omega
      have := List.countP_eq_zero.1 h0 i (List.mem_range.2 hi)
      have h2 : i < done.size := by rw [h.dsz]; exact hi
      simp [h2] at this ⊢; exact this
    refine ⟨?_, hend done a w h hall⟩
    refine List.eq_nil_iff_forall_not_mem.2 (fun i hi => ?_)
    obtain ⟨h0, o, ho, _⟩ := mem_ready.1 hi
    have hlt : i < ops.size := (Array.getElem?_eq_some_iff.1 ho).1
    have h1 := hall i hlt
    have h2 : i < done.size := by rw [h.dsz]; exact hlt
    simp [h2] at h0 h1
    rw [h0] at h1; cases h1
  | succ f ih =>
    intro done a w h hf
    refine ⟨fun e => hend done a w h (all_of_ready hb h.dsz e), fun i hi => ?_⟩
    obtain ⟨h0, o, ho, hall⟩ := mem_ready.1 hi
    have hlt : i < ops.size := (Array.getElem?_eq_some_iff.1 ho).1
    have hld : i < done.size := by rw [h.dsz]; exact hlt
    obtain ⟨hg, ⟨d, hd, hdn⟩, hlow, hne⟩ := flow_oper hb ho
    have hdi : dstOf ops i = some d := by simp [dstOf, ho, hd]
    have h00 : done.getD i false = false := by simp [hld] at h0 ⊢; exact h0
    have hset : ∀ j, (done.setIfInBounds i true).getD j false = true → j = i ∨ done.getD j false = true := fun j hj => by
      by_cases e : i = j
      · exact .inl e.symm
      · rw [getD_set_ne false e] at hj; exact .inr hj
    have key : ∀ (v : Value) (w' : World), Fresh w w' → R i v w' → wpAny P .any ops Q f (done.setIfInBounds i true) (a.put o.dst v) w' := fun v w' hf' hv => by
      refine ih _ _ _ ⟨by rw [put_size]; exact h.size, by rw [put_defers]; exact h.defers, h.fr.trans hf', ?_, by rw [Array.size_setIfInBounds]; exact h.dsz, fun t ht => ?_, fun j e hj he => ?_⟩ ?_
      · intro k p hk hkd e he hbe
        rcases hset k hkd with rfl | h2
        · rw [ho] at hk; cases hk; exact getD_set_true (hall e he hbe)
        · exact getD_set_true (h.closed k p hk h2 e he hbe)
      · have hti : d ≠ t := fun e => ht i (by simp [hld]) (by rw [hdi, e])
        rw [hd, ev_ne hti]
        exact h.same t (fun j hj => ht j (getD_set_true hj))
      · by_cases e2 : i = j
        · subst e2
          rw [hdi] at he; cases he
          rw [hd, ev_same (by rw [h.size]; exact hdn)]
          exact hv
        · rw [getD_set_ne false e2] at hj
          have hjs : j < ops.size := by rw [← h.dsz]; exact getD_lt hj
          have hdne : d ≠ e := fun e3 => hne j hjs e2 (by rw [hdi, he, e3])
          rw [hd, ev_ne hdne]
          exact hst j _ w w' (h.res j e hj he) hf'
      · have := countP_less (p := fun j => !done.getD j true) (q := fun j => !(done.setIfInBounds i true).getD j true) (List.range ops.size) (fun x _ hx => by
          by_cases e : i = x
          · subst e; simp [hld] at hx
          · rw [getD_set_ne true e] at hx; exact hx) i (List.mem_range.2 hlt) (by simp [h0]) (by simp [hld])
        omega
    have hs' := hs i o ho a w h.fr (fun j e hj he => h.res j e (waits_spec h.closed 12 i o hj ho hall) he) (fun t ht => h.same t (fun j hj he => by
      have hjs : j < ops.size := by rw [← h.dsz]; exact getD_lt hj
      have := List.all_eq_true.1 ht j (List.mem_range.2 hjs)
      simp only [he, beq_self_eq_true, Bool.not_true, Bool.false_or, Bool.or_eq_true, beq_iff_eq] at this
      rcases this with e | e
      · subst e; rw [h00] at hj; cases hj
      · have hjo : ops[j]? = some ops[j] := Array.getElem?_eq_getElem hjs
        have := waits_spec h.closed 12 j ops[j] e hjo (h.closed j _ hjo hj)
        rw [h00] at this; cases this))
    rcases hs' with ⟨v, w', hr, hf', hv⟩ | ⟨fn, args, hr, hc⟩
    · exact wpOp_run ho hg hr (key v w' hf' hv)
    · exact wpOp_call2 ho hg hr hc (fun e w' ⟨v, he, hf', hv⟩ => ⟨v, he, key v w' hf' hv⟩)
def AllFrom (F : Nat → Oper → Prop) : Nat → List Oper → Prop
  | _, [] => True
  | k, o :: l => F k o ∧ AllFrom F (k + 1) l
theorem allFrom_spec {F : Nat → Oper → Prop} : ∀ (l : List Oper) (k : Nat), AllFrom F k l → ∀ i o, l[i]? = some o → F (k + i) o
  | [], _, _, i, o, h => by simp at h
  | x :: l, k, h, 0, o, e => by simp at e; subst e; exact h.1
  | x :: l, k, h, i + 1, o, e => by
    have := allFrom_spec l (k + 1) h.2 i o (by simpa using e)
    rwa [show k + 1 + i = k + (i + 1) from by omega] at this
/-- The values that are known ahead; what holds of the others. -/
def Rel (vs : List (Option Value)) (S : Nat → Value → World → Prop) (i : Nat) (v : Value) (w : World) : Prop :=
  match vs[i]? with
  | some (some x) => v = x
  | _ => S i v w
theorem Rel.move {vs : List (Option Value)} {S : Nat → Value → World → Prop} (hS : ∀ i v w w', S i v w → Fresh w w' → S i v w') (i : Nat) (v : Value) (w w' : World) (h : Rel vs S i v w) (f : Fresh w w') : Rel vs S i v w' := by
  unfold Rel at *
  split
  · rename_i e; rw [e] at h; exact h
  · rename_i e
    split at h
    · rename_i e2; exact absurd e2 (e _)
    · exact hS i v w w' h f
/-- The frame behind them. -/
def putAll (ops : Array Oper) (a : Act) (A0 : Act) : Nat → Act
  | 0 => A0
  | n + 1 => (putAll ops a A0 n).put (dstOf ops n) (match dstOf ops n with | some d => a.eval (.tmp d) | none => undef)
theorem putAll_size {ops : Array Oper} {a A0 : Act} : ∀ n, (putAll ops a A0 n).tmps.size = A0.tmps.size
  | 0 => rfl
  | n + 1 => by rw [putAll, put_size, putAll_size n]
theorem putAll_defers {ops : Array Oper} {a A0 : Act} : ∀ n, (putAll ops a A0 n).defers = A0.defers
  | 0 => rfl
  | n + 1 => by rw [putAll, put_defers, putAll_defers n]
theorem putAll_eval {ops : Array Oper} {a A0 : Act} (hb : flowB ops A0.tmps.size = true) (t : Nat) : ∀ n, n ≤ ops.size → ((∃ j, j < n ∧ dstOf ops j = some t) → (putAll ops a A0 n).eval (.tmp t) = a.eval (.tmp t)) ∧ ((∀ j, j < n → dstOf ops j ≠ some t) → (putAll ops a A0 n).eval (.tmp t) = A0.eval (.tmp t))
  | 0, _ => ⟨fun ⟨j, h, _⟩ => absurd h (Nat.not_lt_zero j), fun _ => rfl⟩
  | n + 1, hn => by
    obtain ⟨h1, h2⟩ := putAll_eval hb t n (by omega)
    obtain ⟨hg, ⟨d, hd, hdn⟩, _, _⟩ := flow_oper hb (Array.getElem?_eq_getElem (show n < ops.size by omega))
    have hdi : dstOf ops n = some d := by simp [dstOf, show n < ops.size by omega, hd]
    rw [putAll, hdi]
    dsimp only
    by_cases e : d = t
    · subst e
      rw [ev_same (by rw [putAll_size]; exact hdn)]
      exact ⟨fun _ => rfl, fun h => absurd hdi (h n (by omega))⟩
    · rw [ev_ne e]
      refine ⟨fun ⟨j, hj, he⟩ => h1 ⟨j, ?_, he⟩, fun h => h2 (fun j hj => h j (by omega))⟩
      rcases Nat.lt_or_ge j n with h3 | h3
      · exact h3
      · obtain rfl : j = n := by omega
        rw [hdi] at he; cases he; exact absurd rfl e
/-- THE REGION: its operations' values known ahead, those apart that 'S' speaks of. -/
theorem flow_region {id : Nat} {ops : Array Oper} {A0 : Act} {w : World} (vs : List (Option Value)) (S : Nat → Value → World → Prop) (hm : P.follows .mixedOrders = true)
    {n : Nat} (hn : A0.tmps.size = n) (hb : flowB ops n = true) (hS : ∀ i v w w', S i v w → Fresh w w' → S i v w')
    (hs : AllFrom (FStep P ops (Rel vs S) A0 w.drew) 0 ops.toList)
    (hQ : ∀ a w', a = putAll ops a A0 ops.size → Fresh w.drew w' → (∀ j d, dstOf ops j = some d → Rel vs S j (a.eval (.tmp d)) w') → Q .normal a w') : (Code.region id ops true).wp P Q A0 w := by
  subst hn
  refine wp_region_any hm (flow_any (R := Rel vs S) (w0 := w.drew) hb (Rel.move hS) (fun i o ho => ?_) (fun a w' h => ?_) _ _ _ _ ⟨rfl, rfl, .refl _, fun k o _ hk => ?_, by simp, fun t _ => rfl, fun j d hj => ?_⟩ ?_)
  · have := allFrom_spec ops.toList 0 hs i o (by simpa using ho)
    rwa [Nat.zero_add] at this
  · have hdone : ∀ j d, dstOf ops j = some d → (Array.replicate ops.size true).getD j false = true := fun j d hd => by
      have : j < ops.size := by
        rcases Nat.lt_or_ge j ops.size with h1 | h1
        · exact h1
        · simp [dstOf, Array.getElem?_eq_none h1] at hd
      simp [this]
    refine hQ a w' (act_ext (by rw [putAll_size]; exact h.size) (by rw [putAll_defers]; exact h.defers) (fun t => ?_)) h.fr (fun j d hd => h.res j d (hdone j d hd) hd)
    obtain ⟨h1, h2⟩ := putAll_eval (a := a) hb t ops.size (Nat.le_refl _)
    by_cases e : ∃ j, j < ops.size ∧ dstOf ops j = some t
    · exact (h1 e).symm
    · rw [h2 (fun j hj he => e ⟨j, hj, he⟩)]
      refine h.same t (fun j hj he => e ⟨j, ?_, he⟩)
      have := getD_lt hj
      simpa using this
  · exfalso
    have h1 := getD_lt hk
    simp at h1
    simp [h1] at hk
  · exfalso
    have h1 := getD_lt hj
    simp at h1
    simp [h1] at hj
  · have := List.countP_le_length (p := fun j => !(Array.replicate ops.size false).getD j true) (l := List.range ops.size)
    simpa using this
end
end Go.Proofs.YtldncgelghcjeaaGreatDoor.K
