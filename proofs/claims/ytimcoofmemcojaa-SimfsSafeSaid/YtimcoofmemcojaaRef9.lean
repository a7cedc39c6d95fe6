/-
  The document's answer for layer 4: wait.
-/
import Derived.Test.YtimcoofmemcojaaRef8
namespace Go.Proofs.Ytimcoofmemcojaa
open Go.ChangeShapes Go.WideShapes Go.ChangeAt Go.RowKit
variable {w : World}
/-- What wait's region meets: the box of the state, that of the deed, that of the result. -/
structure WBox (W : World) (b0 : Nat) (c0 c1 c2 c3 c4 c5 c6 d0 d1 d2 d3 : Value) (z : Array Value) : Prop where
  bx : W.heap[b0]? = some (.cells #[c0, c1, c2, c3, c4, c5, c6] 31 (0, 0))
  dx : W.heap[b0 + 1]? = some (.cells #[d0, d1, d2, d3] 81 (0, 0))
  rx : W.heap[b0 + 2]? = some (.cells z 31 (0, 0))
theorem WBox.lt {W : World} {b0 : Nat} {c0 c1 c2 c3 c4 c5 c6 d0 d1 d2 d3 : Value} {z : Array Value} (h : WBox W b0 c0 c1 c2 c3 c4 c5 c6 d0 d1 d2 d3 z) : b0 + 2 < W.heap.size := lt_of_at h.rx
theorem WBox.fresh {W W' : World} {b0 : Nat} {c0 c1 c2 c3 c4 c5 c6 d0 d1 d2 d3 : Value} {z : Array Value} (h : WBox W b0 c0 c1 c2 c3 c4 c5 c6 d0 d1 d2 d3 z) (f : Fresh W W') : WBox W' b0 c0 c1 c2 c3 c4 c5 c6 d0 d1 d2 d3 z := ⟨f.at h.bx, f.at h.dx, f.at h.rx⟩
theorem WBox.grown {W W' : World} {b0 X : Nat} {c0 c1 c2 c3 c4 c5 c6 d0 d1 d2 d3 : Value} {z : Array Value} (h : WBox W b0 c0 c1 c2 c3 c4 c5 c6 d0 d1 d2 d3 z) (g : W.grownBy W' (some X)) (hX : b0 + 2 < X) : WBox W' b0 c0 c1 c2 c3 c4 c5 c6 d0 d1 d2 d3 z :=
  ⟨grown_keep g h.bx (by simp; omega), grown_keep g h.dx (by simp; omega), grown_keep g h.rx (by simp; omega)⟩
theorem WBox.reads {W : World} {b0 : Nat} {c0 c1 c2 c3 c4 c5 c6 d0 d1 d2 d3 : Value} {z : Array Value} (h : WBox W b0 c0 c1 c2 c3 c4 c5 c6 d0 d1 d2 d3 z) :
    W.cell? ⟨b0 + 1, 0, none⟩ = some d0 ∧ W.cell? ⟨b0 + 1, 1, none⟩ = some d1 ∧ W.cell? ⟨b0 + 1, 2, none⟩ = some d2 ∧ W.cell? ⟨b0 + 1, 3, none⟩ = some d3 ∧ W.cell? ⟨b0, 3, none⟩ = some c3 ∧ W.frozen? ⟨b0, 3, none⟩ = false :=
  ⟨cell_of_at h.dx rfl, cell_of_at h.dx rfl, cell_of_at h.dx rfl, cell_of_at h.dx rfl, cell_of_at h.bx rfl, by simp [World.frozen?, h.bx]⟩
/-- Behind a copy: the row, and the rest as it was. -/
structure Copied (W0 W : World) (X b0 : Nat) (c0 c1 c2 c3 c4 c5 c6 d0 d1 d2 d3 : Value) (z : Array Value) (g m cap : Nat) (ys : List Value) : Prop where
  own : W.ownsRow X 81 4 (.slice (some ⟨g, 0, none⟩) m cap) m ys
  box : WBox W b0 c0 c1 c2 c3 c4 c5 c6 d0 d1 d2 d3 z
  fresh : Fresh W0 W
  low : b0 + 2 < X
  base : W0.heap.size ≤ X
theorem Copied.move {W0 W W' : World} {X b0 : Nat} {c0 c1 c2 c3 c4 c5 c6 d0 d1 d2 d3 : Value} {z : Array Value} {g m cap : Nat} {ys : List Value} (h : Copied W0 W X b0 c0 c1 c2 c3 c4 c5 c6 d0 d1 d2 d3 z g m cap ys) (f : Fresh W W') : Copied W0 W' X b0 c0 c1 c2 c3 c4 c5 c6 d0 d1 d2 d3 z g m cap ys :=
  ⟨owns_move h.own f, h.box.fresh f, h.fresh.trans f, h.low, h.base⟩
theorem copied_of {W0 W W' : World} {X b0 : Nat} {c0 c1 c2 c3 c4 c5 c6 d0 d1 d2 d3 : Value} {z : Array Value} {g m cap : Nat} {ys : List Value} (hb : WBox W b0 c0 c1 c2 c3 c4 c5 c6 d0 d1 d2 d3 z) (hf : Fresh W0 W) (hX : W0.heap.size ≤ X) (hlow : b0 + 2 < X)
    (hown : W'.ownsRow X 81 4 (.slice (some ⟨g, 0, none⟩) m cap) m ys) (hg : W.grownBy W' (some X)) : Copied W0 W' X b0 c0 c1 c2 c3 c4 c5 c6 d0 d1 d2 d3 z g m cap ys :=
  ⟨hown, hb.grown hg hlow, Below.grown hf hg hf.size (fun k e => by cases e; exact hX), hlow, hX⟩
/-- Behind the deed's append. -/
structure Waited (W0 W : World) (b0 : Nat) (c0 c1 c2 c3 c4 c5 c6 d0 d1 d2 d3 : Value) (z : Array Value) (g m cap : Nat) (ys : List Value) : Prop where
  own : W.ownsRow 0 81 4 (.slice (some ⟨g, 0, none⟩) m cap) m ys
  box : WBox W b0 c0 c1 c2 c3 c4 c5 c6 d0 d1 d2 d3 z
  fresh : Fresh W0 W
  far : b0 + 2 < g
theorem own_mono {B B' : Nat} {w : World} {t : TypeId} {k n : Nat} {v : Value} {xs : List Value} (h : w.ownsRow B t k v n xs) (hB : B' ≤ B) : w.ownsRow B' t k v n xs := by
  obtain ⟨h1, h2⟩ := h
  refine ⟨h1, h2.imp_right ?_⟩
  rintro ⟨g, cap, cur, e, hb, r⟩
  exact ⟨g, cap, cur, e, Nat.le_trans hB hb, r⟩
theorem waited_of {W0 W W' : World} {X b0 : Nat} {c0 c1 c2 c3 c4 c5 c6 d0 d1 d2 d3 : Value} {z : Array Value} {g m cap g' n cap' : Nat} {ys xs : List Value} (h : Copied W0 W X b0 c0 c1 c2 c3 c4 c5 c6 d0 d1 d2 d3 z g m cap ys)
    (hown : W'.ownsRow X 81 4 (.slice (some ⟨g', 0, none⟩) n cap') n xs) (hg : W.grownBy W' (Value.slice (some ⟨g, 0, none⟩) m cap).ownBlock) : Waited W0 W' b0 c0 c1 c2 c3 c4 c5 c6 d0 d1 d2 d3 z g' n cap' xs := by
  have h1 := (World.ownsRow.lt h.own g rfl).1
  have h2 := (World.ownsRow.lt hown g' rfl).1
  have hl := h.low
  have hbase := h.base
  have e1 : (Value.slice (some ⟨g, 0, none⟩) m cap).ownBlock = some g := rfl
  rw [e1] at hg
  refine ⟨own_mono hown (Nat.zero_le _), h.box.grown hg (by omega), Below.grown h.fresh hg h.fresh.size (fun k e => ?_), by omega⟩
  cases e
  omega
theorem WBox.set1 {W : World} {b0 : Nat} {c0 c1 c2 c3 c4 c5 c6 d0 d1 d2 d3 : Value} {z : Array Value} (h : WBox W b0 c0 c1 c2 c3 c4 c5 c6 d0 d1 d2 d3 z) (v : Value) : WBox (W.setCell ⟨b0, 1, none⟩ v) b0 c0 v c2 c3 c4 c5 c6 d0 d1 d2 d3 z := by
  refine ⟨?_, grown_keep (grown_set W b0 1 v) h.dx (by simp), grown_keep (grown_set W b0 1 v) h.rx (by simp)⟩
  simp [World.setCell, Array.getElem?_modify, h.bx]
theorem WBox.set3 {W : World} {b0 : Nat} {c0 c1 c2 c3 c4 c5 c6 d0 d1 d2 d3 : Value} {z : Array Value} (h : WBox W b0 c0 c1 c2 c3 c4 c5 c6 d0 d1 d2 d3 z) (v : Value) : WBox (W.setCell ⟨b0, 3, none⟩ v) b0 c0 c1 c2 v c4 c5 c6 d0 d1 d2 d3 z := by
  refine ⟨?_, grown_keep (grown_set W b0 3 v) h.dx (by simp), grown_keep (grown_set W b0 3 v) h.rx (by simp)⟩
  simp [World.setCell, Array.getElem?_modify, h.bx]
theorem own_grown {B : Nat} {w w' : World} {t : TypeId} {k n X : Nat} {v : Value} {xs : List Value} (h : w.ownsRow B t k v n xs) (g : w.grownBy w' (some X)) (hX : X < B ∨ w.heap.size ≤ X) : w'.ownsRow B t k v n xs :=
  h.kept g (by
    cases hv : v.ownBlock with
    | none => exact .inl rfl
    | some b =>
      have := World.ownsRow.lt h b hv
      refine .inr ?_
      simp
      omega)
theorem own_other {B : Nat} {w w' : World} {t : TypeId} {k n X : Nat} {v : Value} {xs : List Value} (h : w.ownsRow B t k v n xs) (g : w.grownBy w' (some X)) (hc : ∀ b, v.ownBlock = some b → b ≠ X) : w'.ownsRow B t k v n xs :=
  h.kept g (by
    cases hv : v.ownBlock with
    | none => exact .inl rfl
    | some b => exact .inr (by simpa using hc b hv))
theorem far_one {b g n c k : Nat} (h : b + 2 < g) (e : (Value.slice (some ⟨g, 0, none⟩) n c).ownBlock = some k) : b + 3 ≤ k := by
  have e2 : g = k := by simpa [Value.ownBlock] using e
  omega
/-- No row of the state lies in one of three blocks. -/
structure RFar (r : RSt) (R : RLay) (b : Nat) : Prop where
  files : ∀ k, (Value.slice R.fa r.files.length R.fc).ownBlock = some k → k < b ∨ b + 3 ≤ k
  now : ∀ k, (Value.slice R.na r.now.length R.nc).ownBlock = some k → k < b ∨ b + 3 ≤ k
  safe : ∀ k, (Value.slice R.sa r.safe.length R.sc).ownBlock = some k → k < b ∨ b + 3 ≤ k
  wait : ∀ k, (Value.slice R.wa r.wait.length R.wc).ownBlock = some k → k < b ∨ b + 3 ≤ k
theorem RAt.set {w w' : World} {r : RSt} {R : RLay} {b X : Nat} (h : RAt w r R) (f : RFar r R b) (g : w.grownBy w' (some X)) (hX : b ≤ X ∧ X < b + 3) : RAt w' r R :=
  ⟨own_other h.files g (fun k e => by have := f.files k e; omega), own_other h.now g (fun k e => by have := f.now k e; omega), own_other h.safe g (fun k e => by have := f.safe k e; omega), own_other h.wait g (fun k e => by have := f.wait k e; omega)⟩
/-- Ahead of the copy. -/
structure Before (W0 W : World) (X b0 : Nat) (c0 c1 c2 c3 c4 c5 c6 d0 d1 d2 d3 : Value) (z : Array Value) (u : Value) (m : Nat) (ys : List Value) : Prop where
  hX : W.heap[X]? = some (.cells #[] 81 (0, 0))
  row : W.ownsRow 0 81 4 u m ys
  box : WBox W b0 c0 c1 c2 c3 c4 c5 c6 d0 d1 d2 d3 z
  fresh : Fresh W0 W
  low : b0 + 2 < X
  base : W0.heap.size ≤ X
/-- Ahead of the deed's append. -/
structure Ready (W0 W : World) (X b0 : Nat) (c0 c1 c2 c3 c4 c5 c6 d0 d1 d2 d3 : Value) (z : Array Value) (g m cap : Nat) (ys : List Value) (Y : Nat) : Prop where
  cop : Copied W0 W X b0 c0 c1 c2 c3 c4 c5 c6 d0 d1 d2 d3 z g m cap ys
  news : ∀ j u, [d0, d1, d2, d3][j]? = some u → W.cell? ((⟨Y, 0, none⟩ : Addr).add j) = some u
  lowW : X ≤ W.heap.size
theorem ready_late {W0 W : World} {X b0 : Nat} {c0 c1 c2 c3 c4 c5 c6 d0 d1 d2 d3 : Value} {z : Array Value} {g m cap : Nat} {ys : List Value} (h : Copied W0 W X b0 c0 c1 c2 c3 c4 c5 c6 d0 d1 d2 d3 z g m cap ys) (hX : X ≤ W.heap.size) :
    Ready W0 (W.alloc (.cells #[d0, d1, d2, d3] 81)) X b0 c0 c1 c2 c3 c4 c5 c6 d0 d1 d2 d3 z g m cap ys W.heap.size :=
  ⟨h.move ((Fresh.refl W).alloc _), World.news_of_block (at_new W (.cells #[d0, d1, d2, d3] 81)), by rw [World.size_alloc]; omega⟩
theorem ready_early {W0 W : World} {X b0 : Nat} {c0 c1 c2 c3 c4 c5 c6 d0 d1 d2 d3 : Value} {z : Array Value} {g m cap : Nat} {ys : List Value} {Y : Nat} (h : Copied W0 W X b0 c0 c1 c2 c3 c4 c5 c6 d0 d1 d2 d3 z g m cap ys) (hX : X ≤ W.heap.size) (hY : W.heap[Y]? = some (.cells #[d0, d1, d2, d3] 81 (0, 0))) :
    Ready W0 W X b0 c0 c1 c2 c3 c4 c5 c6 d0 d1 d2 d3 z g m cap ys Y :=
  ⟨h, World.news_of_block hY, hX⟩
set_option maxRecDepth 100000 in
set_option maxHeartbeats 8000000 in
theorem rwait_any (r : RSt) (R : RLay) (d : RDeed) (w : World) (hd : d.Is) (hn : r.now.length ≤ 900000) (hw : r.wait.length ≤ 900000) (hat : RAt w r R) :
    Calls Try.prog 38 #[rval r R, dval d] w fun e w' => ∃ R', e = .returned (rval (r.waits d) R') ∧ RAt w' (r.waits d) R' ∧ Fresh w w' := by
  obtain ⟨i0, hi, hz0, hz1, hz2⟩ := info_parts info81
  have hf0 : Fresh w (((w.alloc (.cells #[.slice R.fa r.files.length R.fc, .slice R.na r.now.length R.nc, .slice R.sa r.safe.length R.sc, .slice R.wa r.wait.length R.wc, .int .i64 r.left, .int .i64 r.steps, .bool r.down] 31)).alloc (.cells #[.int .i64 d.kind, .string d.src, .string d.dst, .int .i64 d.file] 81)).alloc (.cells #[.slice none 0 0, .slice none 0 0, .slice none 0 0, .slice none 0 0, .int .i64 0, .int .i64 0, .bool false] 31)) := (((Fresh.refl w).alloc _).alloc _).alloc _
  have HDO := Lib.hid (rdo_any _ r.now d hd hn (hat.now.move hf0))
  have HAT := Lib.hid hat
  have hbox0 : WBox (((w.alloc (.cells #[.slice R.fa r.files.length R.fc, .slice R.na r.now.length R.nc, .slice R.sa r.safe.length R.sc, .slice R.wa r.wait.length R.wc, .int .i64 r.left, .int .i64 r.steps, .bool r.down] 31)).alloc (.cells #[.int .i64 d.kind, .string d.src, .string d.dst, .int .i64 d.file] 81)).alloc (.cells #[.slice none 0 0, .slice none 0 0, .slice none 0 0, .slice none 0 0, .int .i64 0, .int .i64 0, .bool false] 31)) w.heap.size (.slice R.fa r.files.length R.fc) (.slice R.na r.now.length R.nc) (.slice R.sa r.safe.length R.sc) (.slice R.wa r.wait.length R.wc) (.int .i64 r.left) (.int .i64 r.steps) (.bool r.down) (.int .i64 d.kind) (.string d.src) (.string d.dst) (.int .i64 d.file) #[.slice none 0 0, .slice none 0 0, .slice none 0 0, .slice none 0 0, .int .i64 0, .int .i64 0, .bool false] := by
    refine ⟨at_alloc (at_alloc (at_new w _)), ?_, ?_⟩
    · have := at_new (w.alloc (.cells #[.slice R.fa r.files.length R.fc, .slice R.na r.now.length R.nc, .slice R.sa r.safe.length R.sc, .slice R.wa r.wait.length R.wc, .int .i64 r.left, .int .i64 r.steps, .bool r.down] 31)) (.cells #[.int .i64 d.kind, .string d.src, .string d.dst, .int .i64 d.file] 81)
      rw [World.size_alloc] at this
      exact at_alloc this
    · have := at_new ((w.alloc (.cells #[.slice R.fa r.files.length R.fc, .slice R.na r.now.length R.nc, .slice R.sa r.safe.length R.sc, .slice R.wa r.wait.length R.wc, .int .i64 r.left, .int .i64 r.steps, .bool r.down] 31)).alloc (.cells #[.int .i64 d.kind, .string d.src, .string d.dst, .int .i64 d.file] 81)) (.cells #[.slice none 0 0, .slice none 0 0, .slice none 0 0, .slice none 0 0, .int .i64 0, .int .i64 0, .bool false] 31)
      rw [World.size_alloc, World.size_alloc] at this
      exact this
  have HB0 := Lib.hid hbox0
  have HF0 := Lib.hid hf0
  have HNL := Lib.hid hn
  have HWL := Lib.hid hw
  obtain ⟨fl, nl, sl, wl, left, steps, down⟩ := r
  obtain ⟨fa, fc, na, nc, sa, sc, wa, wc⟩ := R
  obtain ⟨dk, ds, dd, df⟩ := d
  dsimp only [rval, dval] at *
  clear hat hf0 hbox0 hn hw hd
  go_enter Try.func38, Try.ntmps38
  go_wp2_with fail
  refine HDO.out.mono ?_
  rintro e w1 ⟨o, rfl, ho, hf1⟩
  have HO := Lib.hid ho
  have HB1 := Lib.hid (HB0.out.fresh hf1)
  have HF1 := Lib.hid (HF0.out.trans hf1)
  obtain ⟨oa, oc, rfl⟩ := owns_slice ho
  have p1 := cell_of_at HB1.out.bx (i := 1) rfl
  have q1 : w1.frozen? ⟨w.heap.size, 1, none⟩ = false := by simp [World.frozen?, HB1.out.bx]
  have HB2 := Lib.hid (HB1.out.set1 (.slice oa (onL nl ⟨dk, ds, dd, df⟩).length oc))
  have HF2 := Lib.hid (HF1.out.setCell (p := ⟨w.heap.size, 1, none⟩) (Nat.le_refl _) (.slice oa (onL nl ⟨dk, ds, dd, df⟩).length oc))
  have HO2 : Hid (undAt 0 (w1.setCell ⟨w.heap.size, 1, none⟩ (.slice oa (onL nl ⟨dk, ds, dd, df⟩).length oc)) (.slice oa (onL nl ⟨dk, ds, dd, df⟩).length oc) (onL nl ⟨dk, ds, dd, df⟩)) :=
    undAt.mono (own_grown HO.out (grown_set w1 w.heap.size 1 _) (.inl (by simp; omega))) (Nat.zero_le _)
  have HOB : Hid (∀ k, (Value.slice oa (onL nl ⟨dk, ds, dd, df⟩).length oc).ownBlock = some k → w.heap.size + 3 ≤ k) := fun k e => by
    have := (World.ownsRow.lt HO.out k e).1
    simp only [World.size_alloc] at this
    omega
  clear HB0 HF0 HB1 HF1 HO ho hf1 HDO
  generalize hnl : onL nl ⟨dk, ds, dd, df⟩ = nl' at *
  have HEQ := Lib.hid hnl
  clear hnl
  go_wp2
  clear p1 q1
  generalize w1.setCell ⟨w.heap.size, 1, none⟩ (.slice oa nl'.length oc) = w2 at *
  have hm1 : wl.length + 1 ≤ maxLen := by have := HWL.out; unfold maxLen; omega
  have hm0 : wl.length ≤ maxLen := by have := HWL.out; unfold maxLen; omega
  have hm2 : (wl.length + 1) * 48 ≤ 140737488355328 := by have := HWL.out; omega
  have hm3 : wl.length * 48 ≤ 140737488355328 := by have := HWL.out; omega
  have HS2 : Hid (w.heap.size + 2 < w2.heap.size) := HB2.out.lt
  have HROW : Hid (w2.drew.ownsRow 0 81 4 (.slice wa wl.length wc) wl.length (rdCells wl)) := owns_move (HAT.out.wait) HF2.out.drew
  obtain ⟨k0, k1, k2, k3, k4, k5⟩ := HB2.out.reads
  have hone : ∀ x ∈ [Value.int .i64 dk, .string ds, .string dd, .int .i64 df], x.oneCell' = true := by
    intro x hx
    simp only [List.mem_cons, List.not_mem_nil, or_false] at hx
    rcases hx with rfl | rfl | rfl | rfl <;> rfl
  have HONE := Lib.hid hone
  have HR1 := Lib.hid (rd_one wl)
  have fA := ((Fresh.refl w2).alloc (.cells #[] 81)).drew
  have fB := (((Fresh.refl w2).alloc (.cells #[] 81)).alloc (.cells #[.int .i64 dk, .string ds, .string dd, .int .i64 df] 81)).drew
  have fC := (((Fresh.refl w2).alloc (.cells #[.int .i64 dk, .string ds, .string dd, .int .i64 df] 81)).alloc (.cells #[] 81)).drew
  have hs2 := HS2.out
  have hrow2 : w2.ownsRow 0 81 4 (.slice wa wl.length wc) wl.length (rdCells wl) := owns_move (HAT.out.wait) HF2.out
  have hb1 : ((w2.alloc (.cells #[] 81)).alloc (.cells #[.int .i64 dk, .string ds, .string dd, .int .i64 df] 81)).heap[w2.heap.size + 1]? = some (.cells #[.int .i64 dk, .string ds, .string dd, .int .i64 df] 81 (0, 0)) := by
    have := at_new (w2.alloc (.cells #[] 81)) (.cells #[.int .i64 dk, .string ds, .string dd, .int .i64 df] 81)
    rw [World.size_alloc] at this; exact this
  have hc1 : ((w2.alloc (.cells #[.int .i64 dk, .string ds, .string dd, .int .i64 df] 81)).alloc (.cells #[] 81)).heap[w2.heap.size + 1]? = some (.cells #[] 81 (0, 0)) := by
    have := at_new (w2.alloc (.cells #[.int .i64 dk, .string ds, .string dd, .int .i64 df] 81)) (.cells #[] 81)
    rw [World.size_alloc] at this; exact this
  have HBa : Hid (Before w2 (w2.alloc (.cells #[] 81)).drew w2.heap.size w.heap.size _ _ _ _ _ _ _ _ _ _ _ _ (.slice wa wl.length wc) wl.length (rdCells wl)) :=
    ⟨at_new w2 _, owns_move hrow2 fA, HB2.out.fresh fA, fA, by omega, Nat.le_refl _⟩
  have HBb : Hid (Before w2 ((w2.alloc (.cells #[] 81)).alloc (.cells #[.int .i64 dk, .string ds, .string dd, .int .i64 df] 81)).drew w2.heap.size w.heap.size _ _ _ _ _ _ _ _ _ _ _ _ (.slice wa wl.length wc) wl.length (rdCells wl)) :=
    ⟨at_alloc (at_new w2 _), owns_move hrow2 fB, HB2.out.fresh fB, fB, by omega, Nat.le_refl _⟩
  have HBc : Hid (Before w2 ((w2.alloc (.cells #[.int .i64 dk, .string ds, .string dd, .int .i64 df] 81)).alloc (.cells #[] 81)).drew (w2.heap.size + 1) w.heap.size _ _ _ _ _ _ _ _ _ _ _ _ (.slice wa wl.length wc) wl.length (rdCells wl)) :=
    ⟨hc1, owns_move hrow2 fC, HB2.out.fresh fC, fC, by omega, Nat.le_succ _⟩
  have HDb := Lib.hid hb1
  have HDc : Hid (((w2.alloc (.cells #[.int .i64 dk, .string ds, .string dd, .int .i64 df] 81)).alloc (.cells #[] 81)).heap[w2.heap.size]? = some (.cells #[.int .i64 dk, .string ds, .string dd, .int .i64 df] 81 (0, 0))) := at_alloc (at_new w2 _)
  obtain ⟨ka0, ka1, ka2, ka3, ka4, ka5⟩ := (HB2.out.fresh ((Fresh.refl w2).alloc (.cells #[] 81))).reads
  obtain ⟨kd0, kd1, kd2, kd3, kd4, kd5⟩ := (HB2.out.fresh ((Fresh.refl w2).alloc (.cells #[.int .i64 dk, .string ds, .string dd, .int .i64 df] 81))).reads
  obtain ⟨kb0, kb1, kb2, kb3, kb4, kb5⟩ := (HB2.out.fresh (((Fresh.refl w2).alloc (.cells #[] 81)).alloc (.cells #[.int .i64 dk, .string ds, .string dd, .int .i64 df] 81))).reads
  obtain ⟨kc0, kc1, kc2, kc3, kc4, kc5⟩ := (HB2.out.fresh (((Fresh.refl w2).alloc (.cells #[.int .i64 dk, .string ds, .string dd, .int .i64 df] 81)).alloc (.cells #[] 81))).reads
  clear fA fB fC hs2 hrow2 hb1 hc1 hone HROW
  go_region_law (first
    | (refine step_append_lies _ rfl (.tmp 13) (.tmp 15) 29 rfl w2.heap.size 81 i0 _ 4 48 Try.underlying29 hi hz0 hz1 hz2 rfl (by decide) (.slice (some ⟨ga, 0, none⟩) wl.length capa) wl.length (rdCells wl) (by simp [Act.eval]) HRa.out.cop.own ⟨wa3.heap.size, 0, none⟩ 1 1 [.int .i64 dk, .string ds, .string dd, .int .i64 df] (by simp [Act.eval]) rfl HRa.out.news HONE.out (by decide) hm1 hm2 HRa.out.lowW _ rfl ?_; intro g cap w4 hown hgrow hat hlt; have HE := Lib.hid (waited_of HRa.out.cop hown hgrow); obtain ⟨j0, j1, j2, j3, j4, j5⟩ := HE.out.box.reads; clear hown hgrow hat hlt)
    | (refine step_append_lies _ rfl (.tmp 13) (.tmp 15) 29 rfl w2.heap.size 81 i0 _ 4 48 Try.underlying29 hi hz0 hz1 hz2 rfl (by decide) (.slice (some ⟨gb, 0, none⟩) wl.length capb) wl.length (rdCells wl) (by simp [Act.eval]) HRb.out.cop.own ⟨w2.heap.size + 1, 0, none⟩ 1 1 [.int .i64 dk, .string ds, .string dd, .int .i64 df] (by simp [Act.eval]) rfl HRb.out.news HONE.out (by decide) hm1 hm2 HRb.out.lowW _ rfl ?_; intro g cap w4 hown hgrow hat hlt; have HE := Lib.hid (waited_of HRb.out.cop hown hgrow); obtain ⟨j0, j1, j2, j3, j4, j5⟩ := HE.out.box.reads; clear hown hgrow hat hlt)
    | (refine step_append_lies _ rfl (.tmp 13) (.tmp 15) 29 rfl (w2.heap.size + 1) 81 i0 _ 4 48 Try.underlying29 hi hz0 hz1 hz2 rfl (by decide) (.slice (some ⟨gc, 0, none⟩) wl.length capc) wl.length (rdCells wl) (by simp [Act.eval]) HRc.out.cop.own ⟨w2.heap.size, 0, none⟩ 1 1 [.int .i64 dk, .string ds, .string dd, .int .i64 df] (by simp [Act.eval]) rfl HRc.out.news HONE.out (by decide) hm1 hm2 HRc.out.lowW _ rfl ?_; intro g cap w4 hown hgrow hat hlt; have HE := Lib.hid (waited_of HRc.out.cop hown hgrow); obtain ⟨j0, j1, j2, j3, j4, j5⟩ := HE.out.box.reads; clear hown hgrow hat hlt)
    | (refine step_copy _ rfl (.tmp 10) (.tmp 12) 29 rfl 81 i0 _ 4 48 Try.underlying29 hi hz0 hz1 hz2 rfl (by decide) w2.heap.size (by simp [Act.eval]) HBa.out.hX (.slice wa wl.length wc) wl.length (rdCells wl) (by simp [Act.eval]) HBa.out.row HR1.out hm0 hm3 ?_; intro ga capa wa3 hown hgrow hat; have hcop := copied_of HBa.out.box HBa.out.fresh HBa.out.base HBa.out.low hown hgrow; obtain ⟨i0', i1', i2', i3', i4', i5'⟩ := hcop.box.reads; have HRa := Lib.hid (ready_late hcop (Nat.le_trans (Nat.le_of_lt (lt_of_at HBa.out.hX)) hgrow.size)); obtain ⟨j0', j1', j2', j3', j4', j5'⟩ := HRa.out.cop.box.reads; clear hown hgrow hat hcop)
    | (refine step_copy _ rfl (.tmp 10) (.tmp 12) 29 rfl 81 i0 _ 4 48 Try.underlying29 hi hz0 hz1 hz2 rfl (by decide) w2.heap.size (by simp [Act.eval]) HBb.out.hX (.slice wa wl.length wc) wl.length (rdCells wl) (by simp [Act.eval]) HBb.out.row HR1.out hm0 hm3 ?_; intro gb capb wb3 hown hgrow hat; have hcop := copied_of HBb.out.box HBb.out.fresh HBb.out.base HBb.out.low hown hgrow; obtain ⟨i0', i1', i2', i3', i4', i5'⟩ := hcop.box.reads; have HRb := Lib.hid (ready_early (Y := w2.heap.size + 1) hcop (Nat.le_trans (Nat.le_of_lt (lt_of_at HBb.out.hX)) hgrow.size) (grown_keep hgrow HDb.out (by simp))); clear hown hgrow hat hcop)
    | (refine step_copy _ rfl (.tmp 10) (.tmp 12) 29 rfl 81 i0 _ 4 48 Try.underlying29 hi hz0 hz1 hz2 rfl (by decide) (w2.heap.size + 1) (by simp [Act.eval]) HBc.out.hX (.slice wa wl.length wc) wl.length (rdCells wl) (by simp [Act.eval]) HBc.out.row HR1.out hm0 hm3 ?_; intro gc capc wc3 hown hgrow hat; have hcop := copied_of HBc.out.box HBc.out.fresh HBc.out.base HBc.out.low hown hgrow; obtain ⟨i0', i1', i2', i3', i4', i5'⟩ := hcop.box.reads; have HRc := Lib.hid (ready_early (Y := w2.heap.size) hcop (Nat.le_trans (Nat.le_of_lt (lt_of_at HBc.out.hX)) hgrow.size) (grown_keep hgrow HDc.out (by simp))); clear hown hgrow hat hcop))
  all_goals
    have hbx := HE.out.box.set3 (.slice (some ⟨g, 0, none⟩) (wl.length + 1) cap)
    have HF5 := Lib.hid ((HF2.out.trans HE.out.fresh).setCell (p := ⟨w.heap.size, 3, none⟩) (Nat.le_refl _) (.slice (some ⟨g, 0, none⟩) (wl.length + 1) cap))
    have hr4 : RAt w4 ⟨fl, nl', sl, wl ++ [⟨dk, ds, dd, df⟩], left, steps, down⟩ ⟨fa, fc, oa, oc, sa, sc, some ⟨g, 0, none⟩, cap⟩ :=
      ⟨owns_move HAT.out.files (HF2.out.trans HE.out.fresh), undAt.move HO2.out HE.out.fresh, HAT.out.safe.move (HF2.out.trans HE.out.fresh), by rw [rdCells_snoc, List.length_append]; exact HE.out.own⟩
    have hfar : RFar ⟨fl, nl', sl, wl ++ [⟨dk, ds, dd, df⟩], left, steps, down⟩ ⟨fa, fc, oa, oc, sa, sc, some ⟨g, 0, none⟩, cap⟩ w.heap.size :=
      ⟨fun k e => .inl (World.ownsRow.lt HAT.out.files k e).2, fun k e => .inr (HOB.out k e), fun k e => .inl (World.ownsRow.lt HAT.out.safe k e).2, fun k e => .inr (far_one HE.out.far e)⟩
    have HR5 := Lib.hid (hr4.set hfar (grown_set w4 w.heap.size 3 (.slice (some ⟨g, 0, none⟩) (wl.length + 1) cap)) (by omega))
    have HFAR := Lib.hid hfar
    clear j0 j1 j2 j3 j4 j5 hr4 hfar HE
    generalize w4.setCell ⟨w.heap.size, 3, none⟩ (.slice (some ⟨g, 0, none⟩) (wl.length + 1) cap) = w5 at *
    obtain ⟨⟨p0, p1, p2, p3, p4, p5, p6⟩, _⟩ := (RBox.mk hbx.bx).cells
    have HRB : Hid (RBox w5 (w.heap.size + 1 + 1) _ _ _ _ _ _ _) := ⟨hbx.rx⟩
    obtain ⟨⟨s0, s1, s2, s3, s4, s5, s6⟩, ⟨t0, t1, t2, t3, t4, t5, t6⟩⟩ := HRB.out.cells
    clear hbx
    go_wp2
    refine bodyPost_ret (v := .agg #[.slice fa fl.length fc, .slice oa nl'.length oc, .slice sa sl.length sc, .slice (some ⟨g, 0, none⟩) (wl.length + 1) cap, .int .i64 left, .int .i64 steps, .bool down]) (by simp [results, Try.results38, go_sem, *]) rfl ?_
    have heq := HEQ.out
    subst heq
    refine ⟨⟨fa, fc, oa, oc, sa, sc, some ⟨g, 0, none⟩, cap⟩, ?_, ?_, ?_⟩
    · show _ = Ending.returned (.agg #[_, _, _, .slice _ (wl ++ [(⟨dk, ds, dd, df⟩ : RDeed)]).length _, _, _, _])
      rw [List.length_append]; rfl
    · exact HR5.out.set HFAR.out (box_set HRB.out _ _ _ _ _ _ _).2 (by omega)
    · repeat (refine Fresh.setCell ?_ (by simp; try omega) _)
      exact HF5.out
end Go.Proofs.Ytimcoofmemcojaa
