/-
  The boxes of the document's 'container' for version 3.
  What the document's own answers for a Taker (package bosunref02) come to: for every Taker whose text is of a length that Go allows; nothing that was there turns.
  What the document's own TakeFlag, TakeText and End (package bosunref02) come to: for every Taker whose text is of a length that Go allows; nothing that was there turns.
  What the document takes, by equations.
-/
import Derived.Test.YtldncgelghcjeaaGreatDoorCat06
import Derived.Test.YtldncgelghcjeaaGreatDoorCat02
import Derived.Test.YtldncgelghcjeaaGreatDoorRows
import Derived.Test.YtldncgelghcjeaaGreatDoorCat04
import Derived.StillTailTactics
import Derived.Deep.RegionWith
import Derived.RegionTactic
set_option linter.unusedSimpArgs false
set_option linter.unusedVariables false
namespace Go.Proofs.YtldncgelghcjeaaGreatDoor.K
open Go.ChangeShapes Go.WideShapes Go.ChangeAt Go.RowKit
set_option maxRecDepth 100000

abbrev zero7r : Obj := .cells #[.string ⟨#[]⟩, .string ⟨#[]⟩, .slice none 0 0, .slice none 0 0, .int .i64 0, .int .i64 0, .slice none 0 0] 115
theorem own_kept_ne {W W' : World} {B B' e e' k k' n n' : Nat} {v v' : Value} {xs xs' : List Value} (h : W.ownsRow B e k v n xs) (h' : W.ownsRow B' e' k' v' n' xs') (hne : e ≠ e') (hg : W.grownBy W' v'.ownBlock) : W'.ownsRow B e k v n xs :=
  World.ownsRow.kept h hg (own_ne h h' hne)
theorem own_past {W : World} {B e k n z i : Nat} {v u : Value} {xs : List Value} (h : W.ownsRow B e k v n xs) (hz : ∀ g, v.ownBlock = some g → g < z) : (W.setCell ⟨z, i, none⟩ u).ownsRow B e k v n xs := by
  refine World.ownsRow.kept h (grown_set W z i u) ?_
  rcases h' : v.ownBlock with _ | g
  · exact .inl rfl
  · refine .inr (fun e2 => ?_)
    have := hz g h'
    have : g = z := by simpa using e2
    omega
theorem cell_set_ne3 {W : World} {g i : Nat} {x u : Value} {z j : Nat} (h : W.cell? ⟨g, i, none⟩ = some x) (hne : g ≠ z) : (W.setCell ⟨z, j, none⟩ u).cell? ⟨g, i, none⟩ = some x := by
  rw [World.cell?_setCell_other (a := ⟨z, j, none⟩) (b := ⟨g, i, none⟩) (h := fun e => hne (congrArg Addr.block e).symm)]
  exact h
structure CB (w W : World) (b : Nat) (s : ByteArray) (e : Int) (c : Array Value) (vl : Value) (L : List ByteArray) (vp : Value) (Pl : List (Int × Int)) (ve : Value) (El : List (ByteArray × ByteArray)) : Prop where
  hb : b = w.heap.size
  t : W.heap[b]? = some (.cells #[.string s, .int .i64 e] 143)
  r1 : W.heap[b + 1]? = some (.cells #[.string ⟨#[]⟩, .int .i64 0] 143)
  r2 : W.heap[b + 2]? = some zero7r
  x : W.heap[b + 3]? = some (.cells c 115)
  lr : W.ownsRow (b + 4) 9 1 vl L.length (tcells L)
  pr : W.ownsRow (b + 4) 117 2 vp Pl.length (pcells Pl)
  er : W.ownsRow (b + 4) 119 2 ve El.length (ecells El)
  fr : Fresh w W
/-- .. and the box of what is taken for a list. -/
structure CQ (w W : World) (b : Nat) (s : ByteArray) (e : Int) (c : Array Value) (vl : Value) (L : List ByteArray) (vp : Value) (Pl : List (Int × Int)) (ve : Value) (El : List (ByteArray × ByteArray)) (qb ty : Nat) (qc : Array Value) : Prop extends CB w W b s e c vl L vp Pl ve El where
  hq : b + 3 < qb
  q : W.heap[qb]? = some (.cells qc ty)
  ll : ∀ g, vl.ownBlock = some g → g < qb
  lp : ∀ g, vp.ownBlock = some g → g < qb
  le : ∀ g, ve.ownBlock = some g → g < qb
section
variable {w W W' : World} {b qb ty : Nat} {s : ByteArray} {e : Int} {c qc : Array Value} {vl vp ve : Value} {L : List ByteArray} {Pl : List (Int × Int)} {El : List (ByteArray × ByteArray)}
theorem CB.fresh (h : CB w W b s e c vl L vp Pl ve El) (f : Fresh W W') : CB w W' b s e c vl L vp Pl ve El :=
  ⟨h.hb, f.at h.t, f.at h.r1, f.at h.r2, f.at h.x, own_fresh h.lr f, own_fresh h.pr f, own_fresh h.er f, h.fr.trans f⟩
theorem CQ.fresh (h : CQ w W b s e c vl L vp Pl ve El qb ty qc) (f : Fresh W W') : CQ w W' b s e c vl L vp Pl ve El qb ty qc :=
  ⟨h.toCB.fresh f, h.hq, f.at h.q, h.ll, h.lp, h.le⟩
theorem CB.setT (h : CB w W b s e c vl L vp Pl ve El) (s' : ByteArray) (e' : Int) : CB w ((W.setCell ⟨b, 0, none⟩ (.string s')).setCell ⟨b, 1, none⟩ (.int .i64 e')) b s' e' c vl L vp Pl ve El :=
  ⟨h.hb, at_set (at_set h.t 0 (.string s')) 1 (.int .i64 e'), at_off (at_off h.r1 (by omega) _) (by omega) _, at_off (at_off h.r2 (by omega) _) (by omega) _, at_off (at_off h.x (by omega) _) (by omega) _,
   own_set (p := ⟨b, 1, none⟩) (own_set (p := ⟨b, 0, none⟩) h.lr (by show b < b + 4; omega) _) (by show b < b + 4; omega) _, own_set (p := ⟨b, 1, none⟩) (own_set (p := ⟨b, 0, none⟩) h.pr (by show b < b + 4; omega) _) (by show b < b + 4; omega) _, own_set (p := ⟨b, 1, none⟩) (own_set (p := ⟨b, 0, none⟩) h.er (by show b < b + 4; omega) _) (by show b < b + 4; omega) _,
   (h.fr.setCell (p := ⟨b, 0, none⟩) (by show w.heap.size ≤ b; rw [h.hb]; exact Nat.le_refl _) _).setCell (p := ⟨b, 1, none⟩) (by show w.heap.size ≤ b; rw [h.hb]; exact Nat.le_refl _) _⟩
theorem CB.setX (h : CB w W b s e c vl L vp Pl ve El) (i : Nat) (u : Value) : CB w (W.setCell ⟨b + 3, i, none⟩ u) b s e (c.setIfInBounds i u) vl L vp Pl ve El :=
  ⟨h.hb, at_off h.t (by omega) _, at_off h.r1 (by omega) _, at_off h.r2 (by omega) _, at_set h.x i u,
   own_set (p := ⟨b + 3, i, none⟩) h.lr (by show b + 3 < b + 4; omega) _, own_set (p := ⟨b + 3, i, none⟩) h.pr (by show b + 3 < b + 4; omega) _, own_set (p := ⟨b + 3, i, none⟩) h.er (by show b + 3 < b + 4; omega) _,
   h.fr.setCell (p := ⟨b + 3, i, none⟩) (by show w.heap.size ≤ b + 3; have := h.hb; omega) _⟩
theorem CQ.setT (h : CQ w W b s e c vl L vp Pl ve El qb ty qc) (s' : ByteArray) (e' : Int) : CQ w ((W.setCell ⟨b, 0, none⟩ (.string s')).setCell ⟨b, 1, none⟩ (.int .i64 e')) b s' e' c vl L vp Pl ve El qb ty qc := by
  have hq := h.hq
  exact ⟨h.toCB.setT s' e', h.hq, at_off (at_off h.q (by omega) _) (by omega) _, h.ll, h.lp, h.le⟩
theorem CQ.setQ (h : CQ w W b s e c vl L vp Pl ve El qb ty qc) (i : Nat) (u : Value) : CQ w (W.setCell ⟨qb, i, none⟩ u) b s e c vl L vp Pl ve El qb ty (qc.setIfInBounds i u) := by
  have hq := h.hq
  exact ⟨⟨h.hb, at_off h.t (by omega) _, at_off h.r1 (by omega) _, at_off h.r2 (by omega) _, at_off h.x (by omega) _, own_past h.lr h.ll, own_past h.pr h.lp, own_past h.er h.le,
    h.fr.setCell (p := ⟨qb, i, none⟩) (by show w.heap.size ≤ qb; have := h.hb; omega) _⟩, h.hq, at_set h.q i u, h.ll, h.lp, h.le⟩
theorem CB.box (h : CB w W b s e c vl L vp Pl ve El) (qc : Array Value) (ty : Nat) : CQ w (W.alloc (.cells qc ty)) b s e c vl L vp Pl ve El W.heap.size ty qc :=
  ⟨h.fresh ((Fresh.refl W).alloc _), lt_of_at h.x, at_new _ _, fun g e => (World.ownsRow.lt h.lr g e).2, fun g e => (World.ownsRow.lt h.pr g e).2, fun g e => (World.ownsRow.lt h.er g e).2⟩
theorem CB.hat (h : CB w W b s e c vl L vp Pl ve El) {v : Value} (hl : ∀ g, v.ownBlock = some g → b + 4 ≤ g) (hg : W.grownBy W' v.ownBlock) {x : Nat} {z : Obj} (hx : x ≤ b + 3) (hz : W.heap[x]? = some z) : W'.heap[x]? = some z :=
  (hg.block x (lt_of_at hz) (fun e => by have := hl x e.symm; omega)).trans hz
theorem CB.growL (h : CB w W b s e c vl L vp Pl ve El) (hg : W.grownBy W' vl.ownBlock) {vl' : Value} {L' : List ByteArray} (hr : W'.ownsRow (b + 4) 9 1 vl' L'.length (tcells L')) : CB w W' b s e c vl' L' vp Pl ve El := by
  have hl : ∀ g, vl.ownBlock = some g → b + 4 ≤ g := fun g e => (World.ownsRow.lt h.lr g e).1
  exact ⟨h.hb, h.hat hl hg (by omega) h.t, h.hat hl hg (by omega) h.r1, h.hat hl hg (by omega) h.r2, h.hat hl hg (by omega) h.x, hr, own_kept_ne h.pr h.lr (by decide) hg, own_kept_ne h.er h.lr (by decide) hg, h.fr.grown hg (fun g e => by have := hl g e; have := h.hb; omega)⟩
theorem CB.growP (h : CB w W b s e c vl L vp Pl ve El) (hg : W.grownBy W' vp.ownBlock) {vp' : Value} {P' : List (Int × Int)} (hr : W'.ownsRow (b + 4) 117 2 vp' P'.length (pcells P')) : CB w W' b s e c vl L vp' P' ve El := by
  have hl : ∀ g, vp.ownBlock = some g → b + 4 ≤ g := fun g e => (World.ownsRow.lt h.pr g e).1
  exact ⟨h.hb, h.hat hl hg (by omega) h.t, h.hat hl hg (by omega) h.r1, h.hat hl hg (by omega) h.r2, h.hat hl hg (by omega) h.x, own_kept_ne h.lr h.pr (by decide) hg, hr, own_kept_ne h.er h.pr (by decide) hg, h.fr.grown hg (fun g e => by have := hl g e; have := h.hb; omega)⟩
theorem CB.growE (h : CB w W b s e c vl L vp Pl ve El) (hg : W.grownBy W' ve.ownBlock) {ve' : Value} {E' : List (ByteArray × ByteArray)} (hr : W'.ownsRow (b + 4) 119 2 ve' E'.length (ecells E')) : CB w W' b s e c vl L vp Pl ve' E' := by
  have hl : ∀ g, ve.ownBlock = some g → b + 4 ≤ g := fun g e => (World.ownsRow.lt h.er g e).1
  exact ⟨h.hb, h.hat hl hg (by omega) h.t, h.hat hl hg (by omega) h.r1, h.hat hl hg (by omega) h.r2, h.hat hl hg (by omega) h.x, own_kept_ne h.lr h.er (by decide) hg, own_kept_ne h.pr h.er (by decide) hg, hr, h.fr.grown hg (fun g e => by have := hl g e; have := h.hb; omega)⟩
theorem CB.tc (h : CB w W b s e c vl L vp Pl ve El) : W.cell? ⟨b, 0, none⟩ = some (.string s) ∧ W.cell? ⟨b, 1, none⟩ = some (.int .i64 e) ∧ W.frozen? ⟨b, 0, none⟩ = false ∧ W.frozen? ⟨b, 1, none⟩ = false :=
  ⟨cell_of_at h.t rfl, cell_of_at h.t rfl, frozen_of_at h.t 0, frozen_of_at h.t 1⟩
theorem CB.xc {v0 v1 v2 v3 v4 v5 v6 : Value} (h : CB w W b s e #[v0, v1, v2, v3, v4, v5, v6] vl L vp Pl ve El) :
    (W.cell? ⟨b + 3, 0, none⟩ = some v0 ∧ W.cell? ⟨b + 3, 1, none⟩ = some v1 ∧ W.cell? ⟨b + 3, 2, none⟩ = some v2 ∧ W.cell? ⟨b + 3, 3, none⟩ = some v3 ∧ W.cell? ⟨b + 3, 4, none⟩ = some v4 ∧ W.cell? ⟨b + 3, 5, none⟩ = some v5 ∧ W.cell? ⟨b + 3, 6, none⟩ = some v6) ∧ ∀ i, W.frozen? ⟨b + 3, i, none⟩ = false :=
  ⟨⟨cell_of_at h.x rfl, cell_of_at h.x rfl, cell_of_at h.x rfl, cell_of_at h.x rfl, cell_of_at h.x rfl, cell_of_at h.x rfl, cell_of_at h.x rfl⟩, frozen_of_at h.x⟩
theorem CB.rc (h : CB w W b s e c vl L vp Pl ve El) : (W.cell? ⟨b + 1, 0, none⟩ = some (.string ⟨#[]⟩) ∧ W.cell? ⟨b + 1, 1, none⟩ = some (.int .i64 0) ∧ ∀ i, W.frozen? ⟨b + 1, i, none⟩ = false) ∧
    (W.cell? ⟨b + 2, 0, none⟩ = some (.string ⟨#[]⟩) ∧ W.cell? ⟨b + 2, 1, none⟩ = some (.string ⟨#[]⟩) ∧ W.cell? ⟨b + 2, 2, none⟩ = some (.slice none 0 0) ∧ W.cell? ⟨b + 2, 3, none⟩ = some (.slice none 0 0) ∧ W.cell? ⟨b + 2, 4, none⟩ = some (.int .i64 0) ∧ W.cell? ⟨b + 2, 5, none⟩ = some (.int .i64 0) ∧ W.cell? ⟨b + 2, 6, none⟩ = some (.slice none 0 0) ∧ ∀ i, W.frozen? ⟨b + 2, i, none⟩ = false) :=
  ⟨⟨cell_of_at h.r1 rfl, cell_of_at h.r1 rfl, frozen_of_at h.r1⟩, cell_of_at h.r2 rfl, cell_of_at h.r2 rfl, cell_of_at h.r2 rfl, cell_of_at h.r2 rfl, cell_of_at h.r2 rfl, cell_of_at h.r2 rfl, cell_of_at h.r2 rfl, frozen_of_at h.r2⟩
theorem CQ.qc2 {v0 v1 : Value} (h : CQ w W b s e c vl L vp Pl ve El qb ty #[v0, v1]) : (W.cell? ⟨qb, 0, none⟩ = some v0 ∧ W.cell? ⟨qb, 1, none⟩ = some v1) ∧ ∀ i, W.frozen? ⟨qb, i, none⟩ = false :=
  ⟨⟨cell_of_at h.q rfl, cell_of_at h.q rfl⟩, frozen_of_at h.q⟩
end
theorem tcells_snoc (L : List ByteArray) (x : ByteArray) : tcells (L ++ [x]) = tcells L ++ [.string x] := by simp [tcells, tcell]
theorem pcells_snoc (L : List (Int × Int)) (x : Int × Int) : pcells (L ++ [x]) = pcells L ++ [.int .i64 x.1, .int .i64 x.2] := by simp [pcells, pcell]
theorem ecells_snoc (L : List (ByteArray × ByteArray)) (x : ByteArray × ByteArray) : ecells (L ++ [x]) = ecells L ++ [.string x.1, .string x.2] := by simp [ecells, ecell]
theorem infoRPt : (Tryz.prog.info? 117).map (fun i => (i.zero, i.size, i.bytes)) = some (some (.agg #[.int .i64 0, .int .i64 0]), 2, 16) := by kernel_rfl
theorem infoREv : (Tryz.prog.info? 119).map (fun i => (i.zero, i.size, i.bytes)) = some (some (.agg #[.string ⟨#[]⟩, .string ⟨#[]⟩]), 2, 32) := by kernel_rfl
theorem infoStr3 : (Tryz.prog.info? 9).map (fun i => (i.zero, i.size, i.bytes)) = some (some (.string ⟨#[]⟩), 1, 16) := by kernel_rfl
/-- A container of the document's, its rows owned. -/
structure CmOwn (N : Nat) (W : World) (m : CM) : Prop where
  lr : W.ownsRow N 9 1 (.slice m.ca m.c.cmd.length m.cc) m.c.cmd.length (tcells m.c.cmd)
  pr : W.ownsRow N 117 2 (.slice m.pa m.c.ports.length m.pc) m.c.ports.length (pcells m.c.ports)
  er : W.ownsRow N 119 2 (.slice m.ea m.c.env.length m.ec) m.c.env.length (ecells m.c.env)
theorem CmOwn.in {N : Nat} {W : World} {m : CM} (h : CmOwn N W m) : m.In W := ⟨RowAt.owns h.lr, RowAt.owns h.pr, RowAt.owns h.er, own_le h.pr⟩
theorem CmOwn.fresh {N : Nat} {W W' : World} {m : CM} (h : CmOwn N W m) (f : Fresh W W') : CmOwn N W' m := ⟨own_fresh h.lr f, own_fresh h.pr f, own_fresh h.er f⟩
theorem set7_0 {W : World} {b ty : Nat} {u a0 a1 a2 a3 a4 a5 a6 : Value} (h : W.heap[b]? = some (.cells #[a0, a1, a2, a3, a4, a5, a6] ty)) : (W.setCell ⟨b, 0, none⟩ u).heap[b]? = some (.cells #[u, a1, a2, a3, a4, a5, a6] ty) := at_set h 0 u
theorem set7_1 {W : World} {b ty : Nat} {u a0 a1 a2 a3 a4 a5 a6 : Value} (h : W.heap[b]? = some (.cells #[a0, a1, a2, a3, a4, a5, a6] ty)) : (W.setCell ⟨b, 1, none⟩ u).heap[b]? = some (.cells #[a0, u, a2, a3, a4, a5, a6] ty) := at_set h 1 u
theorem set7_2 {W : World} {b ty : Nat} {u a0 a1 a2 a3 a4 a5 a6 : Value} (h : W.heap[b]? = some (.cells #[a0, a1, a2, a3, a4, a5, a6] ty)) : (W.setCell ⟨b, 2, none⟩ u).heap[b]? = some (.cells #[a0, a1, u, a3, a4, a5, a6] ty) := at_set h 2 u
theorem set7_3 {W : World} {b ty : Nat} {u a0 a1 a2 a3 a4 a5 a6 : Value} (h : W.heap[b]? = some (.cells #[a0, a1, a2, a3, a4, a5, a6] ty)) : (W.setCell ⟨b, 3, none⟩ u).heap[b]? = some (.cells #[a0, a1, a2, u, a4, a5, a6] ty) := at_set h 3 u
theorem set7_4 {W : World} {b ty : Nat} {u a0 a1 a2 a3 a4 a5 a6 : Value} (h : W.heap[b]? = some (.cells #[a0, a1, a2, a3, a4, a5, a6] ty)) : (W.setCell ⟨b, 4, none⟩ u).heap[b]? = some (.cells #[a0, a1, a2, a3, u, a5, a6] ty) := at_set h 4 u
theorem set7_5 {W : World} {b ty : Nat} {u a0 a1 a2 a3 a4 a5 a6 : Value} (h : W.heap[b]? = some (.cells #[a0, a1, a2, a3, a4, a5, a6] ty)) : (W.setCell ⟨b, 5, none⟩ u).heap[b]? = some (.cells #[a0, a1, a2, a3, a4, u, a6] ty) := at_set h 5 u
theorem set7_6 {W : World} {b ty : Nat} {u a0 a1 a2 a3 a4 a5 a6 : Value} (h : W.heap[b]? = some (.cells #[a0, a1, a2, a3, a4, a5, a6] ty)) : (W.setCell ⟨b, 6, none⟩ u).heap[b]? = some (.cells #[a0, a1, a2, a3, a4, a5, u] ty) := at_set h 6 u
theorem set2_0 {W : World} {b ty : Nat} {u a0 a1 : Value} (h : W.heap[b]? = some (.cells #[a0, a1] ty)) : (W.setCell ⟨b, 0, none⟩ u).heap[b]? = some (.cells #[u, a1] ty) := at_set h 0 u
theorem set2_1 {W : World} {b ty : Nat} {u a0 a1 : Value} (h : W.heap[b]? = some (.cells #[a0, a1] ty)) : (W.setCell ⟨b, 1, none⟩ u).heap[b]? = some (.cells #[a0, u] ty) := at_set h 1 u
theorem off_set {W : World} {x z i : Nat} {u : Value} {o : Obj} (h : W.heap[x]? = some o) (hne : x ≠ z) : (W.setCell ⟨z, i, none⟩ u).heap[x]? = some o := at_off h hne (i := i) u
theorem own_low {W : World} {B e k n z i : Nat} {v u : Value} {xs : List Value} (h : W.ownsRow B e k v n xs) (hz : z < B) : (W.setCell ⟨z, i, none⟩ u).ownsRow B e k v n xs := own_set (p := ⟨z, i, none⟩) h hz _
theorem fresh_low {w W : World} {z i : Nat} {u : Value} (h : Fresh w W) (hz : w.heap.size ≤ z) : Fresh w (W.setCell ⟨z, i, none⟩ u) := h.setCell (p := ⟨z, i, none⟩) hz _
theorem at_drew {W : World} {x : Nat} {o : Obj} (h : W.heap[x]? = some o) : (W.drew).heap[x]? = some o := h
theorem own_drew {W : World} {B e k n : Nat} {v : Value} {xs : List Value} (h : W.ownsRow B e k v n xs) : W.drew.ownsRow B e k v n xs := own_fresh h ((Fresh.refl W).drew)
theorem own_base {W : World} {B B' e k n : Nat} {v : Value} {xs : List Value} (h : W.ownsRow B e k v n xs) (hB : B' ≤ B) : W.ownsRow B' e k v n xs := by
  refine ⟨h.1, ?_⟩
  rcases h.2 with h2 | ⟨g, cap, cur, q1, q2, q3⟩
  · exact .inl h2
  · exact .inr ⟨g, cap, cur, q1, Nat.le_trans hB q2, q3⟩
theorem CmOwn.mk' {N b : Nat} {W : World} {c : Ct} {la lb le : Option Addr} {i j k l m n : Nat} (hi : c.cmd.length = i) (hj : c.ports.length = j) (hk : c.env.length = k) (hN : b = N)
    (h1 : W.ownsRow (b + 4) 9 1 (.slice la i l) c.cmd.length (tcells c.cmd)) (h2 : W.ownsRow (b + 4) 117 2 (.slice lb j m) c.ports.length (pcells c.ports)) (h3 : W.ownsRow (b + 4) 119 2 (.slice le k n) c.env.length (ecells c.env)) : CmOwn N W ⟨c, la, l, lb, m, le, n⟩ := by
  subst hi hj hk hN
  exact ⟨own_base h1 (by omega), own_base h2 (by omega), own_base h3 (by omega)⟩
/-- What stands when the results are stored. -/
theorem CB.fin {w U : World} {b : Nat} {s : ByteArray} {e : Int} {v0 v1 v2 v3 v4 v5 v6 : Value} {vl vp ve : Value} {L : List ByteArray} {Pl : List (Int × Int)} {El : List (ByteArray × ByteArray)} (h : CB w U b s e #[v0, v1, v2, v3, v4, v5, v6] vl L vp Pl ve El) {WF : World}
    (hW : WF = ((((((((((U.setCell ⟨b + 1, 0, none⟩ (.string s)).setCell ⟨b + 1, 1, none⟩ (.int .i64 e)).setCell ⟨b + 1 + 1, 0, none⟩ v0).setCell ⟨b + 1 + 1, 1, none⟩ v1).setCell ⟨b + 1 + 1, 2, none⟩ v2).setCell ⟨b + 1 + 1, 3, none⟩ v3).setCell ⟨b + 1 + 1, 4, none⟩ v4).setCell ⟨b + 1 + 1, 5, none⟩ v5).setCell ⟨b + 1 + 1, 6, none⟩ v6).drew)) :
    (WF.cell? ⟨b + 1, 0, none⟩ = some (.string s) ∧ WF.cell? ⟨b + 1, 1, none⟩ = some (.int .i64 e)) ∧ (WF.cell? ⟨b + 1 + 1, 0, none⟩ = some v0 ∧ WF.cell? ⟨b + 1 + 1, 1, none⟩ = some v1 ∧ WF.cell? ⟨b + 1 + 1, 2, none⟩ = some v2 ∧ WF.cell? ⟨b + 1 + 1, 3, none⟩ = some v3 ∧ WF.cell? ⟨b + 1 + 1, 4, none⟩ = some v4 ∧ WF.cell? ⟨b + 1 + 1, 5, none⟩ = some v5 ∧ WF.cell? ⟨b + 1 + 1, 6, none⟩ = some v6) ∧ Fresh w WF ∧
      WF.ownsRow (b + 4) 9 1 vl L.length (tcells L) ∧ WF.ownsRow (b + 4) 117 2 vp Pl.length (pcells Pl) ∧ WF.ownsRow (b + 4) 119 2 ve El.length (ecells El) := by
  have n1 : b + 1 ≠ b + 1 + 1 := by omega
  have n2 : b + 1 + 1 ≠ b + 1 := by omega
  have q1 : b + 1 < b + 4 := by omega
  have q2 : b + 1 + 1 < b + 4 := by omega
  have hb1 : w.heap.size ≤ b + 1 := by have := h.hb; omega
  have hb2 : w.heap.size ≤ b + 1 + 1 := by omega
  have h1 : WF.heap[b + 1]? = some (.cells #[.string s, .int .i64 e] 143) := by
    rw [hW]
    exact at_drew (off_set (off_set (off_set (off_set (off_set (off_set (off_set (set2_1 (set2_0 h.r1)) n1) n1) n1) n1) n1) n1) n1)
  have h2 : WF.heap[b + 1 + 1]? = some (.cells #[v0, v1, v2, v3, v4, v5, v6] 115) := by
    rw [hW]
    exact at_drew (set7_6 (set7_5 (set7_4 (set7_3 (set7_2 (set7_1 (set7_0 (off_set (off_set h.r2 n2) n2))))))))
  have keep : ∀ {e k n : Nat} {v : Value} {xs : List Value}, U.ownsRow (b + 4) e k v n xs → WF.ownsRow (b + 4) e k v n xs := fun {e' k n v xs} hr => by
    rw [hW]
    exact own_drew (own_low (own_low (own_low (own_low (own_low (own_low (own_low (own_low (own_low hr q1) q1) q2) q2) q2) q2) q2) q2) q2)
  refine ⟨⟨cell_of_at h1 rfl, cell_of_at h1 rfl⟩, ⟨cell_of_at h2 rfl, cell_of_at h2 rfl, cell_of_at h2 rfl, cell_of_at h2 rfl, cell_of_at h2 rfl, cell_of_at h2 rfl, cell_of_at h2 rfl⟩, ?_, keep h.lr, keep h.pr, keep h.er⟩
  rw [hW]
  exact (fresh_low (fresh_low (fresh_low (fresh_low (fresh_low (fresh_low (fresh_low (fresh_low (fresh_low h.fr hb1) hb1) hb2) hb2) hb2) hb2) hb2) hb2) hb2).drew
end Go.Proofs.YtldncgelghcjeaaGreatDoor.K
namespace Go.Proofs.YtldncgelghcjeaaGreatDoor.K
open Go.ChangeShapes Go.WideShapes Go.ChangeAt Go.RowKit
set_option maxRecDepth 100000
theorem number_any (s : ByteArray) (w : World) (hs : s.size ≤ 8) : Calls Tryz.prog 104 #[.string s] w fun r w' => r = .returned (.int .u64 (numB s.data.toList)) ∧ w = w' := by
  go_enter Tryz.func104, Tryz.ntmps104
  go_wp2
  go_loop [3, 4] (fun x i => ∃ k : Nat, k ≤ s.size ∧ i = .int .i64 k ∧ x = .int .u64 (numB (s.data.toList.take k))) (fun _ i => s.size - (intOf i).toNat)
  case atStart => exact ⟨0, Nat.zero_le _, rfl, rfl⟩
  case round =>
    obtain ⟨k, hk, rfl, rfl⟩ := hrel
    have hb := numB_lt (s.data.toList.take k)
    have hl : (s.data.toList.take k).length ≤ k := List.length_take_le _ _
    by_cases hlt : k < s.size
    · have hp := pow_le8 (s.data.toList.take k).length (by omega)
      have hx : numB (s.data.toList.take k) < 72057594037927936 := by omega
      have HS : Hid (numB (s.data.toList.take (k + 1)) = numB (s.data.toList.take k) * 256 + s[k].toNat) := by rw [take_snoc s k hlt, numB_snoc]; exact rfl
      clear hb hl hp
      have hc := s[k].toNat_lt
      generalize numB (s.data.toList.take k) = x at hx HS ⊢
      go_wp2
      exact ⟨⟨k + 1, by omega, by go_num, by rw [HS.out]; go_num⟩, by simp [intOf]; omega⟩
    · obtain rfl : k = s.size := by omega
      clear hb hl
      have HT : Hid (s.data.toList.take s.size = s.data.toList) := by
        rw [List.take_of_length_le (by rw [← Lib.size_eq]; exact Nat.le_refl _)]; exact rfl
      go_wp2
      go_ret
      exact ⟨by rw [HT.out]; rfl, rfl⟩

theorem rtake_err (s : ByteArray) (e n : Int) (w : World) (he : e ≠ 0) :
    Calls Tryz.prog 65 #[.agg #[.string s, .int .i64 e], .int .i64 n] w fun r w' => r = .returned (.tuple #[.agg #[.string s, .int .i64 e], .int .u64 0]) ∧ Fresh w w' := by
  have hne : (e != 0) = true := by simpa using he
  clear he
  go_enter Tryz.func65, Tryz.ntmps65
  go_wp2
  exact bodyPost_ret (v := .tuple #[.agg #[.string s, .int .i64 e], .int .u64 0]) (by simp [results, Tryz.results65, go_sem]) rfl ⟨rfl, ((Fresh.refl _).alloc _).alloc _⟩
theorem rtake_no (s : ByteArray) (n : Int) (w : World) (hn : okN n = false) :
    Calls Tryz.prog 65 #[.agg #[.string s, .int .i64 0], .int .i64 n] w fun r w' => r = .returned (.tuple #[.agg #[.string s, .int .i64 7], .int .u64 0]) ∧ Fresh w w' := by
  obtain ⟨h1, h2, h4, h8⟩ := okN_not hn
  have e1 : (n != 1) = true := by simpa using h1
  have e2 : (n != 2) = true := by simpa using h2
  have e4 : (n != 4) = true := by simpa using h4
  have e8 : (n != 8) = true := by simpa using h8
  clear hn h1 h2 h4 h8
  go_enter Tryz.func65, Tryz.ntmps65
  go_wp2
  exact bodyPost_ret (v := .tuple #[.agg #[.string s, .int .i64 7], .int .u64 0]) (by simp [results, Tryz.results65, go_sem]) rfl ⟨rfl, ((Fresh.refl _).alloc _).alloc _⟩
theorem rtake_short (s : ByteArray) (n : Int) (w : World) (hs : s.size ≤ maxLen) (hn : okN n = true) (hsz : s.size < n.toNat) :
    Calls Tryz.prog 65 #[.agg #[.string s, .int .i64 0], .int .i64 n] w fun r w' => r = .returned (.tuple #[.agg #[.string s, .int .i64 1], .int .u64 0]) ∧ Fresh w w' := by
  unfold maxLen at hs
  rcases okN_cases hn with rfl | rfl | rfl | rfl
  · have hz : s.size < 1 := hsz
    clear hn hsz
    go_enter Tryz.func65, Tryz.ntmps65
    go_wp2
    exact bodyPost_ret (v := .tuple #[.agg #[.string s, .int .i64 1], .int .u64 0]) (by simp [results, Tryz.results65, go_sem]) rfl ⟨rfl, ((Fresh.refl _).alloc _).alloc _⟩
  · have hz : s.size < 2 := hsz
    clear hn hsz
    go_enter Tryz.func65, Tryz.ntmps65
    go_wp2
    exact bodyPost_ret (v := .tuple #[.agg #[.string s, .int .i64 1], .int .u64 0]) (by simp [results, Tryz.results65, go_sem]) rfl ⟨rfl, ((Fresh.refl _).alloc _).alloc _⟩
  · have hz : s.size < 4 := hsz
    clear hn hsz
    go_enter Tryz.func65, Tryz.ntmps65
    go_wp2
    exact bodyPost_ret (v := .tuple #[.agg #[.string s, .int .i64 1], .int .u64 0]) (by simp [results, Tryz.results65, go_sem]) rfl ⟨rfl, ((Fresh.refl _).alloc _).alloc _⟩
  · have hz : s.size < 8 := hsz
    clear hn hsz
    go_enter Tryz.func65, Tryz.ntmps65
    go_wp2
    exact bodyPost_ret (v := .tuple #[.agg #[.string s, .int .i64 1], .int .u64 0]) (by simp [results, Tryz.results65, go_sem]) rfl ⟨rfl, ((Fresh.refl _).alloc _).alloc _⟩
set_option maxHeartbeats 1000000 in
theorem rtake_1 (s : ByteArray) (w : World) (hs : s.size ≤ maxLen) (hsz : 1 ≤ s.size) :
    Calls Tryz.prog 65 #[.agg #[.string s, .int .i64 0], .int .i64 1] w fun r w' => r = .returned (.tuple #[.agg #[.string (s.extract 1 s.size), .int .i64 0], .int .u64 (numB (s.data.toList.take 1))]) ∧ Fresh w w' := by
  unfold maxLen at hs
  have hd : decide ((s.size : Int) < 1) = false := by simp; omega
  have hex : (s.extract 0 1).size ≤ 8 := by simp [ByteArray.size_extract]; omega
  go_enter Tryz.func65, Tryz.ntmps65
  go_wp2
  go_region_with (go_at_call 104; refine (number_any _ _ hex).mono ?_; rintro e w' ⟨rfl, rfl⟩)
  all_goals
    go_wp2
    exact bodyPost_ret (v := .tuple #[.agg #[.string (s.extract 1 s.size), .int .i64 0], .int .u64 (numB (s.data.toList.take 1))]) (by simp [results, Tryz.results65, go_sem]) rfl ⟨rfl, (((Fresh.refl _).alloc _).alloc _).drew⟩
set_option maxHeartbeats 1000000 in
theorem rtake_2 (s : ByteArray) (w : World) (hs : s.size ≤ maxLen) (hsz : 2 ≤ s.size) :
    Calls Tryz.prog 65 #[.agg #[.string s, .int .i64 0], .int .i64 2] w fun r w' => r = .returned (.tuple #[.agg #[.string (s.extract 2 s.size), .int .i64 0], .int .u64 (numB (s.data.toList.take 2))]) ∧ Fresh w w' := by
  unfold maxLen at hs
  have hd : decide ((s.size : Int) < 2) = false := by simp; omega
  have hex : (s.extract 0 2).size ≤ 8 := by simp [ByteArray.size_extract]; omega
  go_enter Tryz.func65, Tryz.ntmps65
  go_wp2
  go_region_with (go_at_call 104; refine (number_any _ _ hex).mono ?_; rintro e w' ⟨rfl, rfl⟩)
  all_goals
    go_wp2
    exact bodyPost_ret (v := .tuple #[.agg #[.string (s.extract 2 s.size), .int .i64 0], .int .u64 (numB (s.data.toList.take 2))]) (by simp [results, Tryz.results65, go_sem]) rfl ⟨rfl, (((Fresh.refl _).alloc _).alloc _).drew⟩
set_option maxHeartbeats 1000000 in
theorem rtake_4 (s : ByteArray) (w : World) (hs : s.size ≤ maxLen) (hsz : 4 ≤ s.size) :
    Calls Tryz.prog 65 #[.agg #[.string s, .int .i64 0], .int .i64 4] w fun r w' => r = .returned (.tuple #[.agg #[.string (s.extract 4 s.size), .int .i64 0], .int .u64 (numB (s.data.toList.take 4))]) ∧ Fresh w w' := by
  unfold maxLen at hs
  have hd : decide ((s.size : Int) < 4) = false := by simp; omega
  have hex : (s.extract 0 4).size ≤ 8 := by simp [ByteArray.size_extract]; omega
  go_enter Tryz.func65, Tryz.ntmps65
  go_wp2
  go_region_with (go_at_call 104; refine (number_any _ _ hex).mono ?_; rintro e w' ⟨rfl, rfl⟩)
  all_goals
    go_wp2
    exact bodyPost_ret (v := .tuple #[.agg #[.string (s.extract 4 s.size), .int .i64 0], .int .u64 (numB (s.data.toList.take 4))]) (by simp [results, Tryz.results65, go_sem]) rfl ⟨rfl, (((Fresh.refl _).alloc _).alloc _).drew⟩
set_option maxHeartbeats 1000000 in
theorem rtake_8 (s : ByteArray) (w : World) (hs : s.size ≤ maxLen) (hsz : 8 ≤ s.size) :
    Calls Tryz.prog 65 #[.agg #[.string s, .int .i64 0], .int .i64 8] w fun r w' => r = .returned (.tuple #[.agg #[.string (s.extract 8 s.size), .int .i64 0], .int .u64 (numB (s.data.toList.take 8))]) ∧ Fresh w w' := by
  unfold maxLen at hs
  have hd : decide ((s.size : Int) < 8) = false := by simp; omega
  have hex : (s.extract 0 8).size ≤ 8 := by simp [ByteArray.size_extract]; omega
  go_enter Tryz.func65, Tryz.ntmps65
  go_wp2
  go_region_with (go_at_call 104; refine (number_any _ _ hex).mono ?_; rintro e w' ⟨rfl, rfl⟩)
  all_goals
    go_wp2
    exact bodyPost_ret (v := .tuple #[.agg #[.string (s.extract 8 s.size), .int .i64 0], .int .u64 (numB (s.data.toList.take 8))]) (by simp [results, Tryz.results65, go_sem]) rfl ⟨rfl, (((Fresh.refl _).alloc _).alloc _).drew⟩
theorem rtake_any (s : ByteArray) (e n : Int) (w : World) (hs : s.size ≤ maxLen) :
    Calls Tryz.prog 65 #[.agg #[.string s, .int .i64 e], .int .i64 n] w fun r w' => r = .returned (.tuple #[.agg #[.string (takeT s e n).1, .int .i64 (takeT s e n).2.1], .int .u64 (takeT s e n).2.2]) ∧ Fresh w w' := by
  by_cases he : e = 0
  · subst he
    by_cases hn : okN n = true
    · by_cases hsz : s.size < n.toNat
      · rw [show takeT s 0 n = (s, 1, 0) from by simp [takeT, hn, hsz]]
        exact rtake_short s n w hs hn hsz
      · rw [show takeT s 0 n = (s.extract n.toNat s.size, 0, (numB (s.data.toList.take n.toNat) : Int)) from by simp [takeT, hn, hsz]]
        rcases okN_cases hn with rfl | rfl | rfl | rfl
        · exact rtake_1 s w hs (Nat.le_of_not_lt hsz)
        · exact rtake_2 s w hs (Nat.le_of_not_lt hsz)
        · exact rtake_4 s w hs (Nat.le_of_not_lt hsz)
        · exact rtake_8 s w hs (Nat.le_of_not_lt hsz)
    · have hn' : okN n = false := by simpa using hn
      rw [show takeT s 0 n = (s, 7, 0) from by simp [takeT, hn']]
      exact rtake_no s n w hn'
  · rw [show takeT s e n = (s, e, 0) from by simp [takeT, he]]
    exact rtake_err s e n w he
end Go.Proofs.YtldncgelghcjeaaGreatDoor.K
namespace Go.Proofs.YtldncgelghcjeaaGreatDoor.K
open Go.ChangeShapes Go.WideShapes Go.ChangeAt Go.RowKit
set_option maxRecDepth 100000
theorem rtake_at {s s1 : ByteArray} {e n e1 v : Int} (w : World) (hs : s.size ≤ maxLen) (h : takeT s e n = (s1, e1, v)) :
    Calls Tryz.prog 65 #[.agg #[.string s, .int .i64 e], .int .i64 n] w fun r w' => r = .returned (.tuple #[.agg #[.string s1, .int .i64 e1], .int .u64 v]) ∧ Fresh w w' := by
  have := rtake_any s e n w hs
  rw [h] at this
  exact this
theorem take_err {s s1 : ByteArray} {e n e1 v : Int} (h : takeT s e n = (s1, e1, v)) (hv : v ≠ 0) : e1 = 0 := by
  unfold takeT at h
  split at h
  · simp at h; omega
  split at h
  · simp at h; omega
  split at h
  · simp at h; omega
  · simp only [Prod.mk.injEq] at h; omega
theorem cell_past {w w' : World} (h : Fresh w w') {b o : Nat} (hb : b < w.heap.size) : w'.cell? ⟨b, o, none⟩ = w.cell? ⟨b, o, none⟩ := Below.cell h (p := ⟨b, o, none⟩) hb
theorem frozen_past {w w' : World} (h : Fresh w w') {b o : Nat} (hb : b < w.heap.size) : w'.frozen? ⟨b, o, none⟩ = w.frozen? ⟨b, o, none⟩ := Below.frozen h (p := ⟨b, o, none⟩) hb
/-- Two boxes that a call has laid, read behind another call. -/
structure Boxes (w w1 : World) (a0 a1 b0 b1 : Value) : Prop where
  c10 : w1.cell? ⟨w.heap.size, 0, none⟩ = some a0
  c11 : w1.cell? ⟨w.heap.size, 1, none⟩ = some a1
  c20 : w1.cell? ⟨w.heap.size + 1, 0, none⟩ = some b0
  c21 : w1.cell? ⟨w.heap.size + 1, 1, none⟩ = some b1
  f10 : w1.frozen? ⟨w.heap.size, 0, none⟩ = false
  f11 : w1.frozen? ⟨w.heap.size, 1, none⟩ = false
  f20 : w1.frozen? ⟨w.heap.size + 1, 0, none⟩ = false
  f21 : w1.frozen? ⟨w.heap.size + 1, 1, none⟩ = false
  z0 : w.heap.size < w1.heap.size
  z1 : w.heap.size + 1 < w1.heap.size
  fresh : Fresh w w1
theorem boxes {w w1 : World} {a0 a1 b0 b1 : Value} (hg : Fresh ((w.alloc (.cells #[a0, a1] 143)).alloc (.cells #[b0, b1] 143)) w1) : Boxes w w1 a0 a1 b0 b1 := by
  have c10 := cell_past hg (b := w.heap.size) (o := 0) (by simp; omega)
  have c11 := cell_past hg (b := w.heap.size) (o := 1) (by simp; omega)
  have c20 := cell_past hg (b := w.heap.size + 1) (o := 0) (by simp)
  have c21 := cell_past hg (b := w.heap.size + 1) (o := 1) (by simp)
  have f10 := frozen_past hg (b := w.heap.size) (o := 0) (by simp; omega)
  have f11 := frozen_past hg (b := w.heap.size) (o := 1) (by simp; omega)
  have f20 := frozen_past hg (b := w.heap.size + 1) (o := 0) (by simp)
  have f21 := frozen_past hg (b := w.heap.size + 1) (o := 1) (by simp)
  simp [go_sem] at c10 c11 c20 c21 f10 f11 f20 f21
  have hz : w.heap.size + 1 < w1.heap.size := by have := hg.size; simp at this; omega
  exact ⟨c10, c11, c20, c21, f10, f11, f20, f21, by omega, hz, (((Fresh.refl _).alloc _).alloc _).trans hg⟩
set_option maxHeartbeats 1000000 in
theorem rflagT_any (s : ByteArray) (e : Int) (w : World) (hs : s.size ≤ maxLen) :
    Calls Tryz.prog 67 #[.agg #[.string s, .int .i64 e]] w fun r w' => r = .returned (.tuple #[.agg #[.string (flagT s e).1, .int .i64 (flagT s e).2.1], .bool (flagT s e).2.2]) ∧ Fresh w w' := by
  have hv := take_val s e 1
  obtain ⟨s1, e1, v, hT⟩ : ∃ s1 e1 v, takeT s e 1 = (s1, e1, v) := ⟨_, _, _, rfl⟩
  rw [show ((1 : Nat) : Int) = 1 from rfl, hT] at hv
  obtain ⟨hv0, hv1⟩ : 0 ≤ v ∧ v < 256 := hv
  have hF : flagT s e = if 1 < v then (s, 6, false) else (s1, e1, v == 1) := by simp only [flagT, hT]
  have he1 : 1 < v → e1 = 0 := fun h => take_err hT (by omega)
  have HT := Lib.hid hT
  clear hT
  by_cases h1 : 1 < v
  · obtain rfl := he1 h1
    clear he1
    rw [hF, if_pos h1]
    clear hF
    go_enter Tryz.func67, Tryz.ntmps67
    go_wp2_with fail
    refine (rtake_at _ hs HT.out).mono ?_
    rintro r w1 ⟨rfl, hg⟩
    obtain ⟨c10, c11, c20, c21, f10, f11, f20, f21, z0, z1, hfr⟩ := boxes hg
    clear hg
    go_wp2
    exact bodyPost_ret (v := .tuple #[.agg #[.string s, .int .i64 6], .bool false]) (by simp [results, Tryz.results67, go_sem, c20, c21, z1]) rfl ⟨rfl, (((hfr.setCell (by simp) _).setCell (by simp) _).setCell (by simp) _).alloc _⟩
  · rw [hF, if_neg h1]
    clear hF he1
    by_cases h0 : e1 = 0
    · subst h0
      go_enter Tryz.func67, Tryz.ntmps67
      go_wp2_with fail
      refine (rtake_at _ hs HT.out).mono ?_
      rintro r w1 ⟨rfl, hg⟩
      obtain ⟨c10, c11, c20, c21, f10, f11, f20, f21, z0, z1, hfr⟩ := boxes hg
      clear hg
      go_wp2
      exact bodyPost_ret (v := .tuple #[.agg #[.string s1, .int .i64 0], .bool (v == 1)]) (by simp [results, Tryz.results67, go_sem, c20, c21, z1]) rfl ⟨rfl, ((hfr.setCell (by simp) _).setCell (by simp) _).alloc _⟩
    · have hne : (e1 == 0) = false := by simpa using h0
      clear h0
      go_enter Tryz.func67, Tryz.ntmps67
      go_wp2_with fail
      refine (rtake_at _ hs HT.out).mono ?_
      rintro r w1 ⟨rfl, hg⟩
      obtain ⟨c10, c11, c20, c21, f10, f11, f20, f21, z0, z1, hfr⟩ := boxes hg
      clear hg
      go_wp2
      exact bodyPost_ret (v := .tuple #[.agg #[.string s1, .int .i64 e1], .bool (v == 1)]) (by simp [results, Tryz.results67, go_sem, c20, c21, z1]) rfl ⟨rfl, ((hfr.setCell (by simp) _).setCell (by simp) _).alloc _⟩
set_option maxRecDepth 100000 in
set_option maxHeartbeats 2000000 in
theorem rtextT_any (s : ByteArray) (e : Int) (w : World) (hs : s.size ≤ maxLen) :
    Calls Tryz.prog 66 #[.agg #[.string s, .int .i64 e]] w fun r w' => r = .returned (.tuple #[.agg #[.string (textT s e).1, .int .i64 (textT s e).2.1], .string (textT s e).2.2]) ∧ Fresh w w' := by
  have hv := take_val s e 2
  obtain ⟨s1, e1, v, hT⟩ : ∃ s1 e1 v, takeT s e 2 = (s1, e1, v) := ⟨_, _, _, rfl⟩
  rw [show ((2 : Nat) : Int) = 2 from rfl, hT] at hv
  obtain ⟨hv0, hv1⟩ : 0 ≤ v ∧ v < 65536 := hv
  have hl := take_len hT
  have hF : textT s e = if e1 ≠ 0 then (s1, e1, ⟨#[]⟩) else if 4096 < v then (s, 2, ⟨#[]⟩) else if (s1.size : Int) < v then (s, 1, ⟨#[]⟩) else (s1.extract v.toNat s1.size, 0, s1.extract 0 v.toNat) := by simp only [textT, hT]
  have HT := Lib.hid hT
  have hs' := hs
  unfold maxLen at hs'
  obtain ⟨n, rfl⟩ := Int.eq_ofNat_of_zero_le hv0
  clear hT
  by_cases h1 : e1 = 0
  · subst h1
    rw [if_neg (by simp)] at hF
    by_cases h2 : 4096 < (n : Int)
    · rw [hF, if_pos h2]
      clear hF
      go_enter Tryz.func66, Tryz.ntmps66
      go_wp2_with fail
      refine (rtake_at _ hs HT.out).mono ?_
      rintro r w1 ⟨rfl, hg⟩
      obtain ⟨c10, c11, c20, c21, f10, f11, f20, f21, z0, z1, hfr⟩ := boxes hg
      clear hg
      go_wp2
      exact bodyPost_ret (v := .tuple #[.agg #[.string s, .int .i64 2], .string ⟨#[]⟩]) (by simp [results, Tryz.results66, go_sem, c20, c21, z1]) rfl ⟨rfl, (((hfr.setCell (by simp) _).setCell (by simp) _).setCell (by simp) _).alloc _⟩
    · rw [if_neg h2] at hF
      have h2' : n ≤ 4096 := by omega
      clear hv0 hv1 h2
      by_cases h3 : (s1.size : Int) < n
      · rw [hF, if_pos h3]
        have h3' : s1.size < n := by omega
        clear hF h3
        go_enter Tryz.func66, Tryz.ntmps66
        go_wp2_with fail
        refine (rtake_at _ hs HT.out).mono ?_
        rintro r w1 ⟨rfl, hg⟩
        obtain ⟨c10, c11, c20, c21, f10, f11, f20, f21, z0, z1, hfr⟩ := boxes hg
        clear hg
        go_wp2
        exact bodyPost_ret (v := .tuple #[.agg #[.string s, .int .i64 1], .string ⟨#[]⟩]) (by simp [results, Tryz.results66, go_sem, c20, c21, z1]) rfl ⟨rfl, (((hfr.setCell (by simp) _).setCell (by simp) _).setCell (by simp) _).alloc _⟩
      · rw [hF, if_neg h3]
        have hle : n ≤ s1.size := by omega
        clear hF h3
        go_enter Tryz.func66, Tryz.ntmps66
        go_wp2_with fail
        refine (rtake_at _ hs HT.out).mono ?_
        rintro r w1 ⟨rfl, hg⟩
        obtain ⟨c10, c11, c20, c21, f10, f11, f20, f21, z0, z1, hfr⟩ := boxes hg
        clear hg
        go_wp2
        go_region
        all_goals
          go_wp2
          exact bodyPost_ret (v := .tuple #[.agg #[.string (s1.extract n s1.size), .int .i64 0], .string (s1.extract 0 n)]) (by simp [results, Tryz.results66, go_sem, c20, c21, z1]) rfl ⟨rfl, (((hfr.setCell (by simp) _).setCell (by simp) _).alloc _).drew⟩
  · rw [hF, if_pos h1]
    have hne : (e1 != 0) = true := by simpa using h1
    clear hF h1
    go_enter Tryz.func66, Tryz.ntmps66
    go_wp2_with fail
    refine (rtake_at _ hs HT.out).mono ?_
    rintro r w1 ⟨rfl, hg⟩
    obtain ⟨c10, c11, c20, c21, f10, f11, f20, f21, z0, z1, hfr⟩ := boxes hg
    clear hg
    go_wp2
    exact bodyPost_ret (v := .tuple #[.agg #[.string s1, .int .i64 e1], .string ⟨#[]⟩]) (by simp [results, Tryz.results66, go_sem, c20, c21, z1]) rfl ⟨rfl, ((hfr.setCell (by simp) _).setCell (by simp) _).alloc _⟩
theorem rend_any (s : ByteArray) (e : Int) (w : World) :
    Calls Tryz.prog 69 #[.agg #[.string s, .int .i64 e]] w fun r w' => r = .returned (.int .i64 (endT s e)) ∧ Fresh w w' := by
  by_cases h : e = 0
  · subst h
    by_cases h2 : s.size = 0
    · obtain rfl : s = ⟨#[]⟩ := ByteArray.ext (Array.eq_empty_of_size_eq_zero h2)
      clear h2
      go_enter Tryz.func69, Tryz.ntmps69
      go_wp2
      go_ret
      exact ⟨rfl, (Fresh.refl _).alloc _⟩
    · have HF : Hid (endT s 0 = 6) := by unfold endT; rw [if_pos ⟨rfl, h2⟩]; exact rfl
      have hb : s.toList.isEmpty = false := toList_some h2
      go_enter Tryz.func69, Tryz.ntmps69
      go_wp2
      go_ret
      exact ⟨by rw [HF.out]; rfl, (Fresh.refl _).alloc _⟩
  · have HF : Hid (endT s e = e) := by unfold endT; rw [if_neg (fun k => h k.1)]; exact rfl
    have hne : (e == 0) = false := by simpa using h
    go_enter Tryz.func69, Tryz.ntmps69
    go_wp2
    go_ret
    exact ⟨by rw [HF.out]; rfl, (Fresh.refl _).alloc _⟩
end Go.Proofs.YtldncgelghcjeaaGreatDoor.K
namespace Go.Proofs.YtldncgelghcjeaaGreatDoor.K
open Go.ChangeShapes Go.WideShapes Go.ChangeAt Go.RowKit

theorem rtext_at {s s1 x : ByteArray} {e e1 : Int} (w : World) (hs : s.size ≤ maxLen) (h : textT s e = (s1, e1, x)) :
    Calls Tryz.prog 66 #[.agg #[.string s, .int .i64 e]] w fun r w' => r = .returned (.tuple #[.agg #[.string s1, .int .i64 e1], .string x]) ∧ Fresh w w' := by
  have := rtextT_any s e w hs
  rw [h] at this
  exact this
theorem rflag_at {s s1 : ByteArray} {e e1 : Int} {x : Bool} (w : World) (hs : s.size ≤ maxLen) (h : flagT s e = (s1, e1, x)) :
    Calls Tryz.prog 67 #[.agg #[.string s, .int .i64 e]] w fun r w' => r = .returned (.tuple #[.agg #[.string s1, .int .i64 e1], .bool x]) ∧ Fresh w w' := by
  have := rflagT_any s e w hs
  rw [h] at this
  exact this
/-! ### once something is wrong, it stays -/
section
variable {s : ByteArray} {e : Int} {s1 s2 s3 s4 s5 s6 s7 s8 s9 t : ByteArray} {e1 e2 e3 e4 e5 e6 e7 e8 e9 f n1 n2 n3 : Int} {c : Ct}
theorem Ct3T.err9 (h : Ct3T s e s1 s2 s3 s4 s5 s6 s7 s8 s9 t e1 e2 e3 e4 e5 e6 e7 e8 e9 f n1 n2 n3 c) (he : e9 ≠ 0) : f = e9 := by
  have := (many_keeps env_keeps n3.toNat s9 e9 he).2
  rw [h.h10] at this
  exact this
theorem Ct3T.err5 (h : Ct3T s e s1 s2 s3 s4 s5 s6 s7 s8 s9 t e1 e2 e3 e4 e5 e6 e7 e8 e9 f n1 n2 n3 c) (he : e5 ≠ 0) : f = e5 := by
  have a6 := (many_keeps port_keeps n2.toNat s5 e5 he).2
  rw [h.h6] at a6
  dsimp only at a6
  subst a6
  have a7 := (take_keeps 4 s6 e6 he).2
  rw [takeF, h.h7] at a7
  dsimp only at a7
  subst a7
  have a8 := (take_keeps 4 s7 e7 he).2
  rw [takeF, h.h8] at a8
  dsimp only at a8
  subst a8
  have a9 := (up_keeps 1 (most := 16) (by decide) s8 e8 he).2
  rw [upF, h.h9] at a9
  dsimp only at a9
  subst a9
  exact h.err9 he
theorem Ct3T.err3 (h : Ct3T s e s1 s2 s3 s4 s5 s6 s7 s8 s9 t e1 e2 e3 e4 e5 e6 e7 e8 e9 f n1 n2 n3 c) (he : e3 ≠ 0) : f = e3 := by
  have a4 := (many_keeps text_keeps n1.toNat s3 e3 he).2
  rw [h.h4] at a4
  dsimp only at a4
  subst a4
  have a5 := (up_keeps 1 (most := 16) (by decide) s4 e4 he).2
  rw [upF, h.h5] at a5
  dsimp only at a5
  subst a5
  exact h.err5 he
end
theorem up_full {s t s1 : ByteArray} {e f e1 m n n1 most : Int} (h : takeT s e n = (t, f, m)) (hm : most < m) (hu : upT s e n most = (s1, e1, n1)) : s1 = t ∧ e1 = 18 ∧ n1 = 0 := by
  unfold upT at hu
  rw [h] at hu
  dsimp only at hu
  rw [if_pos hm] at hu
  simp only [Prod.mk.injEq] at hu
  exact ⟨hu.1.symm, hu.2.1.symm, hu.2.2.symm⟩
theorem up_not {s t s1 : ByteArray} {e f e1 m n n1 most : Int} (h : takeT s e n = (t, f, m)) (hm : ¬ most < m) (hu : upT s e n most = (s1, e1, n1)) : t = s1 ∧ f = e1 ∧ m = n1 := by
  unfold upT at hu
  rw [h] at hu
  dsimp only at hu
  rw [if_neg hm] at hu
  simp only [Prod.mk.injEq] at hu
  exact hu
end Go.Proofs.YtldncgelghcjeaaGreatDoor.K
