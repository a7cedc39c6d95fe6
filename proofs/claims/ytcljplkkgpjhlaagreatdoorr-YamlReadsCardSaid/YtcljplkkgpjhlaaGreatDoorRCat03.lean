/-
  Parts of the proof: VInside.
-/
import Derived.Test.YtcljplkkgpjhlaaGreatDoorRCat02
import Derived.Laws.MakeOwn
import Derived.Laws.OwnMore
set_option maxRecDepth 100000
set_option maxHeartbeats 8000000
namespace Go.Proofs.YtcljplkkgpjhlaaGreatDoorR
namespace v
open Go.ChangeShapes Go.WideShapes Go.ChangeAt Go.RowKit
variable {w : World}
theorem holds_raw (k : Int) (f : Bool) (n : Int) (s : ByteArray) (la : Option Addr) (ln lc : Nat) (ka : Option Addr) (kn kc : Nat) (w : World) :
    Calls Tryz.prog 41 #[mval k f n s la ln lc ka kn kc] w fun e w' => e = .returned (.bool (decide (k = 4 ∨ k = 5))) ∧ Fresh w w' := by
  by_cases h4 : k = 4
  · subst h4
    go_enter Tryz.func41, Tryz.ntmps41
    go_wp2
    go_ret
    exact ⟨rfl, (Fresh.refl w).alloc _⟩
  · have e4 : (k == 4) = false := by simpa using h4
    by_cases h5 : k = 5
    · subst h5
      clear h4
      go_enter Tryz.func41, Tryz.ntmps41
      go_wp2
      go_ret
      exact ⟨rfl, (Fresh.refl w).alloc _⟩
    · have e5 : (k == 5) = false := by simpa using h5
      have H : Hid (decide (k = 4 ∨ k = 5) = false) := decide_eq_false (by omega)
      rw [H.out]
      clear h4 h5
      go_enter Tryz.func41, Tryz.ntmps41
      go_wp2
      go_ret
      exact ⟨rfl, (Fresh.refl w).alloc _⟩
theorem holds_any (m : M) (w : World) : Calls Tryz.prog 41 #[m.val] w fun e w' => e = .returned (.bool m.plain.holds) ∧ Fresh w w' := by
  obtain ⟨k, f, n, s, la, lc, l, ka, kc, ks⟩ := m
  exact holds_raw k f n s la l.length lc ka ks.length kc w
structure Filled (w : World) (g n : Nat) (pre : List Value) : Prop where
  done : ∀ j x, pre[j]? = some x → w.cell? ⟨g, j, none⟩ = some x
  there : ∀ j, j < n → (w.cell? ⟨g, j, none⟩).isSome = true ∧ w.frozen? ⟨g, j, none⟩ = false
theorem Filled.move {w w' : World} {g n : Nat} {pre : List Value} (h : Filled w g n pre) (f : w'.heap[g]? = w.heap[g]?) : Filled w' g n pre :=
  ⟨fun j x hj => (World.cell?_of_block (a := ⟨g, j, none⟩) f).trans (h.done j x hj), fun j hj => by
    rw [World.cell?_of_block (a := ⟨g, j, none⟩) f, World.frozen?_of_block (a := ⟨g, j, none⟩) f]; exact h.there j hj⟩
theorem Filled.start {w : World} {g n : Nat} {Z : Array Value} {t : TypeId} (h : w.heap[g]? = some (.cells Z t (0, 0))) (hZ : Z.size = n) : Filled w g n [] :=
  ⟨fun j x hj => by simp at hj, fun j hj => by
    have : Z[j]? = some Z[j] := Array.getElem?_eq_getElem (by omega)
    simp [World.cell?, World.frozen?, h, this]⟩
theorem Filled.step {w : World} {g n : Nat} {pre : List Value} (h : Filled w g n pre) (vs : List Value) (hn : pre.length + vs.length ≤ n) : Filled (w.setCells g pre.length vs) g n (pre ++ vs) := by
  have hin := World.cell?_setCells_in g vs pre.length w (fun j hj => by simpa using (h.there (pre.length + j) (by omega)).1)
  refine ⟨fun j x hj => ?_, fun j hj => ⟨?_, ?_⟩⟩
  · rcases Nat.lt_or_ge j pre.length with hlt | hge
    · rw [World.cell?_setCells_out g vs _ _ ⟨g, j, none⟩ (fun _ _ => .inl (by show j < pre.length; omega))]
      rw [List.getElem?_append_left hlt] at hj
      exact h.done j x hj
    · rw [List.getElem?_append_right hge] at hj
      have hlt := (List.getElem?_eq_some_iff.1 hj).1
      have := hin (j - pre.length) hlt
      rw [show pre.length + (j - pre.length) = j by omega] at this
      rw [List.getElem?_eq_getElem hlt] at hj
      rw [this, hj]
  · rcases Nat.lt_or_ge j pre.length with hlt | hge
    · rw [World.cell?_setCells_out g vs _ _ ⟨g, j, none⟩ (fun _ _ => .inl (by show j < pre.length; omega))]
      exact (h.there j hj).1
    · rcases Nat.lt_or_ge j (pre.length + vs.length) with h2 | h2
      · have := hin (j - pre.length) (by omega)
        rw [show pre.length + (j - pre.length) = j by omega] at this
        rw [this]
        rfl
      · rw [World.cell?_setCells_out g vs _ _ ⟨g, j, none⟩ (fun _ _ => .inr (by show pre.length + vs.length ≤ j; omega))]
        exact (h.there j hj).1
  · rw [World.frozen?_setCells]; exact (h.there j hj).2
theorem setCells_size (g : Nat) : ∀ (vs : List Value) (o : Nat) (w : World), (w.setCells g o vs).heap.size = w.heap.size
  | [], _, _ => rfl
  | v :: vs, o, w => (setCells_size g vs (o + 1) _).trans (by simp [World.setCell])
def sixSet (w : World) (g o : Nat) (v0 v1 v2 v3 v4 v5 : Value) : World := (((((w.setCell ⟨g, o, none⟩ v0).setCell ⟨g, o + 1, none⟩ v1).setCell ⟨g, o + 2, none⟩ v2).setCell ⟨g, o + 3, none⟩ v3).setCell ⟨g, o + 4, none⟩ v4).setCell ⟨g, o + 5, none⟩ v5
theorem sixSet_eq (w : World) (g o : Nat) (v0 v1 v2 v3 v4 v5 : Value) : w.setCells g o [v0, v1, v2, v3, v4, v5] = sixSet w g o v0 v1 v2 v3 v4 v5 := rfl
theorem Fresh.setCells {a : World} {g : Nat} (hg : a.heap.size ≤ g) : ∀ (vs : List Value) (o : Nat) {b : World}, Fresh a b → Fresh a (b.setCells g o vs)
  | [], _, _, h => h
  | v :: vs, o, _, h => Fresh.setCells hg vs (o + 1) (h.setCell (p := ⟨g, o, none⟩) hg v)
theorem info29 : (Tryz.prog.info? 27).map (fun i => (i.zero, i.size, i.bytes)) = some (some (.agg #[.int .i64 0, .bool false, .int .i64 0, .string ⟨#[]⟩, .slice none 0 0, .slice none 0 0]), 6, 88) := by kernel_rfl
def InsideIs (m : M) (w : World) (e : Ending) (w' : World) : Prop := ∃ a c, e = .returned (.slice a m.inside.length c) ∧ RowAt w' a (mcells m.inside) ∧ Fresh w w' ∧ ((∀ w0, m.At w0 → RowAt w0 a (mcells m.inside)) ∨ ∀ ad : Addr, a = some ad → w.heap.size ≤ ad.block)
theorem inside_list (f : Bool) (n : Int) (s : ByteArray) (la : Option Addr) (lc : Nat) (l : List M) (ka : Option Addr) (kc : Nat) (ks : List (ByteArray × M)) (w : World) (h : RowAt w la (mcells l)) :
    Calls Tryz.prog 39 #[(M.mk 4 f n s la lc l ka kc ks).val] w (InsideIs (.mk 4 f n s la lc l ka kc ks) w) := by
  have H : Hid (∀ w', Fresh w w' → InsideIs (.mk 4 f n s la lc l ka kc ks) w (.returned (.slice la l.length lc)) w') := fun w' hf => ⟨la, lc, rfl, h.move hf, hf, .inl fun w0 h0 => h0.parts.2.1⟩
  dsimp only [M.val]
  clear h
  generalize l.length = ln at *
  generalize ks.length = kn at *
  go_enter Tryz.func39, Tryz.ntmps39
  go_wp2
  go_ret
  exact H.out _ ((Fresh.refl w).alloc _)
theorem inside_none (k : Int) (f : Bool) (n : Int) (s : ByteArray) (la : Option Addr) (lc : Nat) (l : List M) (ka : Option Addr) (kc : Nat) (ks : List (ByteArray × M)) (w : World) (h4 : k ≠ 4) (h5 : k ≠ 5) :
    Calls Tryz.prog 39 #[(M.mk k f n s la lc l ka kc ks).val] w (InsideIs (.mk k f n s la lc l ka kc ks) w) := by
  have H : Hid (∀ w', Fresh w w' → InsideIs (.mk k f n s la lc l ka kc ks) w (.returned (.slice none 0 0)) w') := fun w' hf => by
    have e : (M.mk k f n s la lc l ka kc ks).inside = [] := by simp [M.inside, M.kind, h4, h5]
    exact ⟨none, 0, by rw [e]; rfl, by rw [e]; exact .nil w', hf, .inr fun ad h => by cases h⟩
  have e4 : (k == 4) = false := by simpa using h4
  have e5 : (k == 5) = false := by simpa using h5
  dsimp only [M.val]
  clear h4 h5
  generalize l.length = ln at *
  generalize ks.length = kn at *
  go_enter Tryz.func39, Tryz.ntmps39
  go_wp2
  go_ret
  exact H.out _ ((Fresh.refl w).alloc _)
theorem inside_keys (f : Bool) (n : Int) (s : ByteArray) (la : Option Addr) (lc : Nat) (l : List M) (g0 kc : Nat) (ks : List (ByteArray × M)) (w : World) (h : RowAt w (some ⟨g0, 0, none⟩) (pcells ks)) (hl : ks.length ≤ 1000000) :
    Calls Tryz.prog 39 #[(M.mk 5 f n s la lc l (some ⟨g0, 0, none⟩) kc ks).val] w (InsideIs (.mk 5 f n s la lc l (some ⟨g0, 0, none⟩) kc ks) w) := by
  obtain ⟨i0, hi, hz0, hz1, hz2⟩ := info_parts info29
  obtain ⟨Z, hZs, hZ⟩ : ∃ Z : Array Value, Z.size = ks.length * 6 ∧ ∀ W, (Instr.makeSlice 24 (.int .i64 (ks.length : Int)) (.int .i64 (ks.length : Int))).run Tryz.prog W = .ok (.slice (some ⟨W.heap.size, 0, none⟩) ks.length ks.length) (W.alloc (.cells Z 27)) := by
    refine ⟨madeCells (Value.agg #[.int .i64 0, .bool false, .int .i64 0, .string ⟨#[]⟩, .slice none 0 0, .slice none 0 0]).cells (ks.length * 6), size_madeCells _ _, fun W => ?_⟩
    · have := Go.run_makeSlice (P := Tryz.prog) W 24 27 i0 _ Tryz.underlying24 hi hz0 .i64 .i64 ks.length ks.length (by omega) (Int.le_refl _) (by rw [hz1]; omega) (by rw [hz2]; omega) (by omega)
      rw [Int.toNat_natCast, hz1] at this
      exact this
  have HZ := Lib.hid hZs
  have HR := Lib.hid h
  clear h hZs hi hz0 hz1 hz2
  dsimp only [M.val]
  generalize hln : l.length = ln
  clear hln
  go_enter Tryz.func39, Tryz.ntmps39
  go_wp2
  have HF0 : Hid (Filled ((w.alloc (.cells #[.int .i64 5, .bool f, .int .i64 n, .string s, .slice la ln lc, .slice (some ⟨g0, 0, none⟩) ks.length kc] 27)).alloc (.cells Z 27)) (w.heap.size + 1) (ks.length * 6) (mcells ((ks.take 0).map (·.2)))) :=
    Filled.start (t := 27) (by have := at_new (w.alloc (.cells #[.int .i64 5, .bool f, .int .i64 n, .string s, .slice la ln lc, .slice (some ⟨g0, 0, none⟩) ks.length kc] 27)) (.cells Z 27); rw [World.size_alloc] at this; exact this) HZ.out
  go_loopw [21] (fun i wr => ∃ k : Nat, k ≤ ks.length ∧ i = .int .i64 k ∧ Hid (Filled wr (w.heap.size + 1) (ks.length * 6) (mcells ((ks.take k).map (·.2)))) ∧ Hid (Fresh w wr)) (fun i _ => ks.length - (intOf i).toNat)
  case atStart => exact ⟨0, Nat.zero_le _, rfl, HF0, ((Fresh.refl w).alloc _).alloc _⟩
  case round =>
    obtain ⟨k, hk, rfl, HF, HW⟩ := hrel
    clear HF0
    by_cases hlt : k < ks.length
    · obtain ⟨c, hc⟩ := prow_get (HR.out.move HW.out) k hlt
      have HT : Hid ((ks.take (k + 1)).map (·.2) = (ks.take k).map (·.2) ++ [ks[k].2]) := by rw [Hid, List.take_succ_eq_append_getElem hlt, List.map_append]; rfl
      have HP : Hid ((mcells ((ks.take k).map (·.2))).length = k * 6) := by rw [Hid, mcells_length, List.length_map, List.length_take, Nat.min_eq_left hk]
      have ht := fun j (hj : j < 6) => HF.out.there (k * 6 + j) (by omega)
      obtain ⟨o0, t0⟩ := Option.isSome_iff_exists.1 (ht 0 (by omega)).1
      obtain ⟨o1, t1⟩ := Option.isSome_iff_exists.1 (ht 1 (by omega)).1
      obtain ⟨o2, t2⟩ := Option.isSome_iff_exists.1 (ht 2 (by omega)).1
      obtain ⟨o3, t3⟩ := Option.isSome_iff_exists.1 (ht 3 (by omega)).1
      obtain ⟨o4, t4⟩ := Option.isSome_iff_exists.1 (ht 4 (by omega)).1
      obtain ⟨o5, t5⟩ := Option.isSome_iff_exists.1 (ht 5 (by omega)).1
      have z0 := (ht 0 (by omega)).2
      have z1 := (ht 1 (by omega)).2
      have z2 := (ht 2 (by omega)).2
      have z3 := (ht 3 (by omega)).2
      have z4 := (ht 4 (by omega)).2
      have z5 := (ht 5 (by omega)).2
      have t0 : wr.cell? ⟨w.heap.size + 1, k * 6, none⟩ = some o0 := t0
      have z0 : wr.frozen? ⟨w.heap.size + 1, k * 6, none⟩ = false := z0
      have hlw : w.heap.size + 1 < wr.heap.size := World.block_lt_of_cell? wr _ t0
      generalize ks[k] = p at *
      obtain ⟨nm, y⟩ := p
      have HS : Hid (∀ o : Obj, Filled ((wr.setCells (w.heap.size + 1) (k * 6) y.cells).alloc o) (w.heap.size + 1) (ks.length * 6) (mcells ((ks.take (k + 1)).map (·.2))) ∧ Fresh w ((wr.setCells (w.heap.size + 1) (k * 6) y.cells).alloc o)) := fun o => by
        have := HF.out.step y.cells (by rw [HP.out, cells_length]; omega)
        rw [HP.out] at this
        exact ⟨by rw [HT.out, mcells_snoc]; exact this.move (Below.heap_alloc _ _ _ (by rw [setCells_size]; exact hlw)), (Fresh.setCells (by omega) _ _ HW.out).alloc o⟩
      obtain ⟨yk, yf, yn, ys, yla, ylc, yl, yka, ykc, yks⟩ := y
      obtain ⟨c0, c1, c2, c3, c4, c5⟩ := hc
      dsimp only at c
      dsimp only [M.cells] at HS
      simp only [sixSet_eq] at HS
      generalize yl.length = yln at *
      generalize yks.length = ykn at *
      have HE := Lib.hid (HS.out (.cells #[.string nm, .int .i64 yk, .bool yf, .int .i64 yn, .string ys, .slice yla yln ylc, .slice yka ykn ykc] 54))
      unfold sixSet at HE
      clear ht HF HT HP HS
      go_wp2
      go_roundw
      case rel => exact ⟨k + 1, by omega, by go_num, HE.out.1, HE.out.2⟩
      case measure => simp [intOf]; omega
    · obtain rfl : k = ks.length := by omega
      go_wp2
      go_ret
      refine ⟨some ⟨w.heap.size + 1, 0, none⟩, ks.length, ?_, ?_, HW.out, .inr fun ad h => by cases h; exact Nat.le_succ _⟩
      · show _ = Ending.returned (.slice _ (M.inside _).length _)
        simp [M.inside, M.kind, M.keys]
      · have := HF.out.done
        rw [List.take_length] at this
        refine .inr ⟨_, rfl, ?_⟩
        simpa [M.inside, M.kind, M.keys] using this
theorem inside_keys_nil (f : Bool) (n : Int) (s : ByteArray) (la : Option Addr) (lc : Nat) (l : List M) (kc : Nat) (w : World) :
    Calls Tryz.prog 39 #[(M.mk 5 f n s la lc l none kc []).val] w (InsideIs (.mk 5 f n s la lc l none kc []) w) := by
  obtain ⟨i0, hi, hz0, hz1, hz2⟩ := info_parts info29
  obtain ⟨Z, hZ⟩ : ∃ Z : Array Value, ∀ W, (Instr.makeSlice 24 (.int .i64 0) (.int .i64 0)).run Tryz.prog W = .ok (.slice (some ⟨W.heap.size, 0, none⟩) 0 0) (W.alloc (.cells Z 27)) := by
    refine ⟨_, fun W => Go.run_makeSlice (P := Tryz.prog) W 24 27 i0 _ Tryz.underlying24 hi hz0 .i64 .i64 0 0 (by omega) (Int.le_refl _) (by simp) (by simp) (by omega)⟩
  clear hi hz0 hz1 hz2
  dsimp only [M.val, List.length_nil]
  generalize hln : l.length = ln
  clear hln
  go_enter Tryz.func39, Tryz.ntmps39
  go_wp2
  go_loop [21] (fun i => i = .int .i64 0) (fun _ => 0)
  case atStart => rfl
  case round =>
    obtain rfl := hrel
    go_wp2
    go_ret
    exact ⟨some ⟨w.heap.size + 1, 0, none⟩, 0, rfl, .inr ⟨_, rfl, fun j x hj => by simp [M.inside, M.kind, M.keys, mcells] at hj⟩, ((Fresh.refl w).alloc _).alloc _, .inr fun ad h => by cases h; exact Nat.le_succ _⟩
theorem inside_any (m : M) (w : World) (h : m.At w) : Calls Tryz.prog 39 #[m.val] w (InsideIs m w) := by
  obtain ⟨k, f, n, s, la, lc, l, ka, kc, ks⟩ := m
  obtain ⟨_, hl, hk, _, lk, _⟩ := h.parts
  by_cases h4 : k = 4
  · subst h4; exact inside_list f n s la lc l ka kc ks w hl
  by_cases h5 : k = 5
  · subst h5
    rcases hk with ⟨rfl, e⟩ | ⟨g, rfl, hk⟩
    · have e2 : ks = [] := by
        cases ks with
        | nil => rfl
        | cons p ks => simp [pcells, pcellsOf] at e
      subst e2
      exact inside_keys_nil f n s la lc l kc w
    · exact inside_keys f n s la lc l g kc ks w (.inr ⟨g, rfl, hk⟩) lk
  · exact inside_none k f n s la lc l ka kc ks w h4 h5
theorem RowAt.grown {w w' : World} {a : Option Addr} {cs : List Value} {r : Option Nat} (h : RowAt w a cs) (hg : w.grownBy w' r) (hne : ∀ ad : Addr, a = some ad → some ad.block ≠ r) : RowAt w' a cs := by
  rcases h with h | ⟨g, e, h⟩
  · exact .inl h
  · exact .inr ⟨g, e, fun j x hj => hg.cell (h j x hj) (hne ⟨g, 0, Option.none⟩ e)⟩
theorem RowAt.lt {w : World} {a : Option Addr} {cs : List Value} (h : RowAt w a cs) (hc : cs ≠ []) : ∀ ad : Addr, a = some ad → ad.block < w.heap.size := by
  intro ad e
  rcases h with ⟨_, h⟩ | ⟨g, e', h⟩
  · exact absurd h hc
  · rw [e] at e'; cases e'
    obtain ⟨x, hx⟩ : ∃ x, cs[0]? = some x := by
      cases cs with
      | nil => exact absurd rfl hc
      | cons a l => exact ⟨a, rfl⟩
    exact World.block_lt_of_cell? w _ (h 0 x hx)
structure Ready (B : Nat) (t : TypeId) (k : Nat) (W : World) (v : Value) (n : Nat) (xs : List Value) (X : Nat) (news : List Value) : Prop where
  own : W.ownsRow B t k v n xs
  box : ∀ j x, news[j]? = some x → W.cell? ((⟨X, 0, none⟩ : Addr).add j) = some x
  low : B ≤ W.heap.size
theorem Ready.mk' {B : Nat} {t : TypeId} {k : Nat} {W : World} {v : Value} {n : Nat} {xs : List Value} (cs : Array Value) (t' : TypeId) (h : W.ownsRow B t k v n xs) (hb : B ≤ W.heap.size) : Ready B t k (W.alloc (.cells cs t')) v n xs W.heap.size cs.toList :=
  ⟨World.ownsRow.alloc h _, World.news_of_block (at_new W (.cells cs t')), by rw [World.size_alloc]; omega⟩
theorem cells_one (m : M) : ∀ u ∈ m.cells, u.oneCell' = true := by
  obtain ⟨k, f, n, s, la, lc, l, ka, kc, ks⟩ := m
  intro u hu
  simp only [M.cells, List.mem_cons, List.not_mem_nil, or_false] at hu
  rcases hu with rfl | rfl | rfl | rfl | rfl | rfl <;> rfl
end v
end Go.Proofs.YtcljplkkgpjhlaaGreatDoorR
