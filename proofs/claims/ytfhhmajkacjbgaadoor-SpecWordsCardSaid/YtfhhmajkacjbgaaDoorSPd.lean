/-
  A pod with its defaults, by package spec: what stands between the steps.
-/
import Derived.Test.YtfhhmajkacjbgaaDoorSWd2
namespace Go.Proofs.YtfhhmajkacjbgaaDoor
open Go.ChangeShapes Go.WideShapes Go.ChangeAt Go.RowKit

theorem QIn.mono {W : World} {B B' : Nat} {m : CM} (h : QIn W B m) (hb : B' ≤ B) : QIn W B' m := ⟨World.ownsRow.mono h.cmd hb, World.ownsRow.mono h.ports hb, World.ownsRow.mono h.env hb⟩
theorem QIn.fresh {W W' : World} {B : Nat} {m : CM} (h : QIn W B m) (f : Fresh W W') : QIn W' B m := ⟨own_fresh' h.cmd f, own_fresh' h.ports f, own_fresh' h.env f⟩
theorem QIn.set {W : World} {B : Nat} {m : CM} (h : QIn W B m) {p : Addr} (hp : p.block < B) (u : Value) : QIn (W.setCell ⟨p.block, p.off, none⟩ u) B m := ⟨own_set' h.cmd hp u, own_set' h.ports hp u, own_set' h.env hp u⟩
theorem QIn.stored {W : World} {B B' g n cap : Nat} {m : CM} {xs : List Value} (h : QIn W B m) (hr : W.ownsRow B' 53 7 (.slice (some ⟨g, 0, none⟩) n cap) n xs) (j : Nat) (u : Value) : QIn (W.setCell ⟨g, j, none⟩ u) B m :=
  ⟨World.ownsRow.kept h.cmd (World.ownsRow.stored hr j u).2 (own_ne' h.cmd hr (by decide)), World.ownsRow.kept h.ports (World.ownsRow.stored hr j u).2 (own_ne' h.ports hr (by decide)), World.ownsRow.kept h.env (World.ownsRow.stored hr j u).2 (own_ne' h.env hr (by decide))⟩
theorem QIn.inn {W : World} {B : Nat} {m : CM} (h : QIn W B m) : m.In W := ⟨RowAt.owns h.cmd, RowAt.owns h.ports, RowAt.owns h.env, own_le h.ports⟩
/-- A pod whose memory the call owns, from block B on. -/
structure QAt (W : World) (B : Nat) (q : PM) : Prop where
  row : W.ownsRow B 53 7 (.slice q.a q.cs.length q.cap) q.cs.length (ccells q.cs)
  ins : ∀ m ∈ q.cs, QIn W B m
theorem QAt.at {W : World} {B : Nat} {q : PM} (h : QAt W B q) : q.At W := ⟨RowAt.owns h.row, fun m hm => (h.ins m hm).inn, own_le h.row⟩
theorem QAt.fresh {W W' : World} {B : Nat} {q : PM} (h : QAt W B q) (f : Fresh W W') : QAt W' B q := ⟨own_fresh' h.row f, fun m hm => (h.ins m hm).fresh f⟩
theorem QAt.mono {W : World} {B B' : Nat} {q : PM} (h : QAt W B q) (hb : B' ≤ B) : QAt W B' q := ⟨World.ownsRow.mono h.row hb, fun m hm => (h.ins m hm).mono hb⟩
theorem ccells_set7 : ∀ (L : List CM) (k : Nat) (n : CM), k < L.length → (((((((ccells L).set (k * 7) (.string n.c.name)).set (k * 7 + 1) (.string n.c.image)).set (k * 7 + 2) (.slice n.ca n.c.cmd.length n.cc)).set (k * 7 + 3) (.slice n.pa n.c.ports.length n.pc)).set (k * 7 + 4) (.int .i64 n.c.cpu)).set (k * 7 + 5) (.int .i64 n.c.mem)).set (k * 7 + 6) (.slice n.ea n.c.env.length n.ec) = ccells (L.set k n)
  | [], k, n, h => absurd h (Nat.not_lt_zero _)
  | a :: r, 0, n, _ => by simp [ccells, CM.cells]
  | a :: r, k + 1, n, h => by
    have ih := ccells_set7 r k n (by simpa using h)
    have e : ∀ i, (k + 1) * 7 + i = a.cells.length + (k * 7 + i) := fun i => by show (k + 1) * 7 + i = 7 + (k * 7 + i); omega
    have e0 : (k + 1) * 7 = a.cells.length + k * 7 := by show (k + 1) * 7 = 7 + k * 7; omega
    have st : ∀ (l : List Value) (j : Nat) (x : Value), (a.cells ++ l).set (a.cells.length + j) x = a.cells ++ l.set j x := fun l j x => by
      rw [List.set_append_right _ _ (Nat.le_add_right _ _), Nat.add_sub_cancel_left]
    rw [show ccells (a :: r) = a.cells ++ ccells r from List.flatMap_cons, e, e, e, e, e, e, e0, st, st, st, st, st, st, st, ih]
    rfl
theorem mid_set {D R : List CM} {m n : CM} {k : Nat} (h : D.length = k) : (D ++ m :: R).set k n = (D ++ [n]) ++ R := by
  rw [List.set_append_right _ _ (by omega), h, Nat.sub_self, List.set_cons_zero]
  simp
/-- Both boxes, between the steps. -/
structure PDS (w W : World) (b : Nat) (s0 s1 : ByteArray) (n2 n3 : Int) (b4 : Bool) (v5 : Value) : Prop where
  at1 : W.heap[b]? = some (.cells #[.string s0, .string s1, .int .i64 n2, .int .i64 n3, .bool b4, v5] 25)
  at2 : W.heap[b + 1]? = some (.cells #[.string ⟨#[]⟩, .string ⟨#[]⟩, .int .i64 0, .int .i64 0, .bool false, .slice none 0 0] 25)
  fr : Fresh w W
  sz : b + 2 ≤ W.heap.size
  bw : w.heap.size = b
section
variable {w W W' : World} {b : Nat} {s0 s1 : ByteArray} {n2 n3 : Int} {b4 : Bool} {v5 : Value}
theorem PDS.start : PDS w ((w.alloc (.cells #[.string s0, .string s1, .int .i64 n2, .int .i64 n3, .bool b4, v5] 25)).alloc (.cells #[.string ⟨#[]⟩, .string ⟨#[]⟩, .int .i64 0, .int .i64 0, .bool false, .slice none 0 0] 25)) w.heap.size s0 s1 n2 n3 b4 v5 where
  at1 := at_alloc (at_new _ _)
  at2 := by have := at_new (w.alloc (.cells #[.string s0, .string s1, .int .i64 n2, .int .i64 n3, .bool b4, v5] 25)) (.cells #[.string ⟨#[]⟩, .string ⟨#[]⟩, .int .i64 0, .int .i64 0, .bool false, .slice none 0 0] 25); rw [World.size_alloc] at this; exact this
  fr := ((Fresh.refl w).alloc _).alloc _
  sz := by simp
  bw := rfl
theorem PDS.go (h : PDS w W b s0 s1 n2 n3 b4 v5) (f : Fresh W W') : PDS w W' b s0 s1 n2 n3 b4 v5 := ⟨f.at h.at1, f.at h.at2, h.fr.trans f, Nat.le_trans h.sz f.size, h.bw⟩
theorem PDS.off (h : PDS w W b s0 s1 n2 n3 b4 v5) {g i : Nat} (hg : b + 2 ≤ g) (u : Value) : PDS w (W.setCell ⟨g, i, none⟩ u) b s0 s1 n2 n3 b4 v5 :=
  ⟨at_off' h.at1 (by omega) u, at_off' h.at2 (by omega) u, h.fr.setCell (p := ⟨g, i, none⟩) (by have := h.bw; show w.heap.size ≤ g; omega) u, by simpa using h.sz, h.bw⟩
theorem PDS.set0 (h : PDS w W b s0 s1 n2 n3 b4 v5) (s : ByteArray) : PDS w (W.setCell ⟨b, 0, none⟩ (.string s)) b s s1 n2 n3 b4 v5 :=
  ⟨at_set h.at1 0 _, at_off' h.at2 (by omega) _, h.fr.setCell (p := ⟨b, 0, none⟩) (by have := h.bw; show w.heap.size ≤ b; omega) _, by simpa using h.sz, h.bw⟩
theorem PDS.set1 (h : PDS w W b s0 s1 n2 n3 b4 v5) (s : ByteArray) : PDS w (W.setCell ⟨b, 1, none⟩ (.string s)) b s0 s n2 n3 b4 v5 :=
  ⟨at_set h.at1 1 _, at_off' h.at2 (by omega) _, h.fr.setCell (p := ⟨b, 1, none⟩) (by have := h.bw; show w.heap.size ≤ b; omega) _, by simpa using h.sz, h.bw⟩
theorem PDS.set3 (h : PDS w W b s0 s1 n2 n3 b4 v5) (n : Int) : PDS w (W.setCell ⟨b, 3, none⟩ (.int .i64 n)) b s0 s1 n2 n b4 v5 :=
  ⟨at_set h.at1 3 _, at_off' h.at2 (by omega) _, h.fr.setCell (p := ⟨b, 3, none⟩) (by have := h.bw; show w.heap.size ≤ b; omega) _, by simpa using h.sz, h.bw⟩
theorem PDS.set5 (h : PDS w W b s0 s1 n2 n3 b4 v5) (u : Value) : PDS w (W.setCell ⟨b, 5, none⟩ u) b s0 s1 n2 n3 b4 u :=
  ⟨at_set h.at1 5 _, at_off' h.at2 (by omega) _, h.fr.setCell (p := ⟨b, 5, none⟩) (by have := h.bw; show w.heap.size ≤ b; omega) _, by simpa using h.sz, h.bw⟩
theorem PDS.cells (h : PDS w W b s0 s1 n2 n3 b4 v5) :
    (W.cell? ⟨b, 0, none⟩ = some (.string s0) ∧ W.cell? ⟨b, 1, none⟩ = some (.string s1) ∧ W.cell? ⟨b, 2, none⟩ = some (.int .i64 n2) ∧ W.cell? ⟨b, 3, none⟩ = some (.int .i64 n3) ∧ W.cell? ⟨b, 4, none⟩ = some (.bool b4) ∧ W.cell? ⟨b, 5, none⟩ = some v5) ∧ ∀ i, W.frozen? ⟨b, i, none⟩ = false :=
  ⟨⟨cell_of_at h.at1 rfl, cell_of_at h.at1 rfl, cell_of_at h.at1 rfl, cell_of_at h.at1 rfl, cell_of_at h.at1 rfl, cell_of_at h.at1 rfl⟩, fun i => by simp [World.frozen?, h.at1]⟩
end
end Go.Proofs.YtfhhmajkacjbgaaDoor
