/-
  The document's answer for layer 4: Without, Do, Step.
-/
import Derived.Test.YtimcoofmemcojaaRef
namespace Go.Proofs.Ytimcoofmemcojaa
open Go.ChangeShapes Go.WideShapes Go.ChangeAt Go.RowKit
variable {w : World}
theorem info94 : (Try.prog.info? 94).map (fun i => (i.zero, i.size, i.bytes)) = some (some (.agg #[.string ⟨#[]⟩, .int .i64 0]), 2, 24) := by kernel_rfl
def withoutL (l : List Und) (name : ByteArray) : List Und := l.filter fun u => !decide (u.1 = name)
theorem withoutL_take (l : List Und) (name : ByteArray) (k : Nat) (hk : k < l.length) : withoutL (l.take (k + 1)) name = withoutL (l.take k) name ++ if l[k].1 = name then [] else [l[k]] := by
  rw [List.take_succ_eq_append_getElem hk]
  unfold withoutL
  rw [List.filter_append]
  by_cases h : l[k].1 = name <;> simp [h]
/-- Where an entry is appended: facts of the world there. -/
structure AtUnd (B : Nat) (W : World) (v : Value) (l : List Und) (X : Nat) (u : Und) : Prop where
  own : undAt B W v l
  box : ∀ j x, (Und.cells u)[j]? = some x → W.cell? ((⟨X, 0, none⟩ : Addr).add j) = some x
  low : B ≤ W.heap.size
theorem und_one (u : Und) : ∀ x ∈ u.cells, x.oneCell' = true := by
  intro x hx
  simp only [Und.cells, List.mem_cons, List.not_mem_nil, or_false] at hx
  rcases hx with rfl | rfl <;> rfl
theorem AtUnd.mk' {B : Nat} {W : World} {v : Value} {l : List Und} (u : Und) (h : undAt B W v l) (hb : B ≤ W.heap.size) : AtUnd B (W.alloc (.cells #[.string u.1, .int .i64 u.2] 94)) v l W.heap.size u :=
  ⟨World.ownsRow.alloc h _, World.news_of_block (at_new W (.cells #[.string u.1, .int .i64 u.2] 94)), by simp; omega⟩
/-- Behind an append to a row of the call's own. -/
theorem und_grown {W w1 w2 : World} {B : Nat} {v : Value} {l : List Und} (hB : W.heap.size ≤ B) (h : undAt B w1 v l) (hfr : Fresh W w1) (hg : w1.grownBy w2 v.ownBlock) : Fresh W w2 :=
  Below.grown hfr hg hfr.size (fun k e => by have := (World.ownsRow.lt h k e).1; omega)
def Wout (w : World) (l : List Und) (name : ByteArray) (k : Nat) (v : Value) (wr : World) : Prop := undAt w.heap.size wr v (withoutL (l.take k) name) ∧ Fresh w wr
def WithoutIs (w : World) (l : List Und) (name : ByteArray) (e : Ending) (w' : World) : Prop := ∃ v, e = .returned v ∧ undAt w.heap.size w' v (withoutL l name) ∧ Fresh w w'
theorem withoutL_len (l : List Und) (name : ByteArray) : (withoutL l name).length ≤ l.length := List.length_filter_le _ _
set_option maxRecDepth 100000 in
set_option maxHeartbeats 1000000 in
theorem without_any {B : Nat} (v : Value) (l : List Und) (name : ByteArray) (hl : l.length ≤ 1000000) (h : undAt B w v l) : Calls Try.prog 50 #[v, .string name] w (WithoutIs w l name) := by
  obtain ⟨i0, hi, hz0, hz1, hz2⟩ := info_parts info94
  rcases h.form with ⟨rfl, rfl⟩ | ⟨g, cap, rfl, hc⟩
  · clear h
    go_enter Try.func50, Try.ntmps50
    go_wp2
    go_loop [5, 6] (fun o i => o = .slice none 0 0 ∧ i = .int .i64 0) (fun _ _ => 0)
    case atStart => exact ⟨rfl, rfl⟩
    case round =>
      obtain ⟨rfl, rfl⟩ := hrel
      go_wp2
      go_ret
      exact ⟨_, rfl, World.ownsRow_nil _ _ _ _, Fresh.refl _⟩
  · have HC := Lib.hid hc
    have HU := Lib.hid h
    clear h hc
    go_enter Try.func50, Try.ntmps50
    go_wp2
    go_loopw [5, 6] (fun o i wr => ∃ k : Nat, k ≤ l.length ∧ i = .int .i64 k ∧ Wout w l name k o wr) (fun _ i _ => l.length - (intOf i).toNat)
    case atStart => exact ⟨0, Nat.zero_le _, rfl, World.ownsRow_nil _ _ _ _, Fresh.refl _⟩
    case round =>
      obtain ⟨k, hk, rfl, hO, hfr⟩ := hrel
      by_cases hlt : k < l.length
      · obtain ⟨c0, c1⟩ := HC.out k hlt
        have hgw : g < w.heap.size := Classical.byContradiction fun hge => by simp [World.cell?, Array.getElem?_eq_none (Nat.le_of_not_lt hge)] at c0
        have d0 : wr.cell? ⟨g, k * 2, none⟩ = some (.string l[k].1) := by rw [Below.cell hfr (p := ⟨g, k * 2, none⟩) hgw]; exact c0
        have d1 : wr.cell? ⟨g, k * 2 + 1, none⟩ = some (.int .i64 l[k].2) := by rw [Below.cell hfr (p := ⟨g, k * 2 + 1, none⟩) hgw]; exact c1
        have HT := Lib.hid (withoutL_take l name k hlt)
        clear c0 c1
        have hlen : (withoutL (l.take k) name).length ≤ 1000000 := by have := withoutL_len (l.take k) name; simp at this; omega
        by_cases he : l[k].1 = name
        · have hb : (!(l[k].1.toList == name.toList)) = false := by rw [toList_beq, decide_eq_true he]; rfl
          have hb2 : (l[k].1.toList == name.toList) = true := by rw [toList_beq, decide_eq_true he]
          have HT2 : Hid (withoutL (l.take (k + 1)) name = withoutL (l.take k) name) := by rw [Hid, HT.out, if_pos he, List.append_nil]
          generalize l[k] = u at *
          have HO := Lib.hid hO
          have HFR := Lib.hid hfr
          clear he hO hfr
          go_wp2
          go_roundw
          case rel => exact ⟨k + 1, by omega, by go_num, by rw [HT2.out]; exact HO.out, HFR.out⟩
          case measure => simp [intOf]; omega
        · have hb : (!(l[k].1.toList == name.toList)) = true := by rw [toList_beq, decide_eq_false he]; rfl
          have hb2 : (l[k].1.toList == name.toList) = false := by rw [toList_beq, decide_eq_false he]
          have HT2 : Hid (withoutL (l.take (k + 1)) name = withoutL (l.take k) name ++ [l[k]]) := by rw [Hid, HT.out, if_neg he]
          generalize l[k] = u at *
          have hA := Lib.hid (AtUnd.mk' u hO hfr.size)
          have HFR := Lib.hid (hfr.alloc (.cells #[.string u.1, .int .i64 u.2] 94))
          have hm1 : (withoutL (l.take k) name).length + 1 ≤ maxLen := by unfold maxLen; omega
          have hm2 : ((withoutL (l.take k) name).length + 1) * 24 ≤ 140737488355328 := by omega
          clear he hO hfr HT
          generalize withoutL (l.take k) name = m at *
          go_wp2_with (first
            | (at_builtin; refine wpList_append_lies _ rfl _ _ 28 rfl w.heap.size 94 i0 _ 2 24 Try.underlying28 hi hz0 hz1 hz2 rfl (by decide) u5 m.length (undCells m) rfl hA.out.own ⟨wr.heap.size, 0, none⟩ 1 1 (Und.cells u) rfl rfl hA.out.box (und_one u) (by decide) hm1 hm2 hA.out.low _ rfl ?_; intro g' cap' w2 hown2 hgrow2 hat2 hlt2; have HOW := Lib.hid hown2; have HGR := Lib.hid hgrow2; clear hown2 hgrow2 hat2 hlt2)
            | go_in)
          go_roundw
          case rel => exact ⟨k + 1, by omega, by go_num, by rw [HT2.out]; have := HOW.out; rw [← undCells_snoc] at this; simpa [undAt] using this, und_grown (Nat.le_refl _) hA.out.own HFR.out HGR.out⟩
          case measure => simp [intOf]; omega
      · obtain rfl : k = l.length := by omega
        have HO := Lib.hid hO
        have HFR := Lib.hid hfr
        clear hO hfr
        go_wp2
        go_ret
        exact ⟨_, rfl, by have := HO.out; rw [List.take_length] at this; exact this, HFR.out⟩
end Go.Proofs.Ytimcoofmemcojaa
