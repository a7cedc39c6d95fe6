/-
  New and List, as far as the document's example asks them: a system with no name, and one with a single one.
-/
import Derived.Test.YtimcoofmemcojaaCrash
namespace Go.Proofs.Ytimcoofmemcojaa
open Go.ChangeShapes Go.WideShapes Go.ChangeAt Go.RowKit
variable {base : Nat} {w : World} {b : Nat} {s : St} {L : Lay}
theorem info9 : (Try.prog.info? 9).map (fun i => (i.zero, i.size, i.bytes)) = some (some (.string ⟨#[]⟩), 1, 16) := by kernel_rfl
def St.init : St := ⟨fun _ => none, fun _ => none, [], 0, -1, false⟩
theorem new_any (w : World) : Calls Try.prog 5 #[] w fun e w' => e = .returned (.pointer (some ⟨w.heap.size + 2, 0, none⟩)) ∧ (∀ base, base ≤ w.heap.size → FsAt base w' (w.heap.size + 2) St.init ⟨w.heap.size, w.heap.size + 1, .slice none 0 0, 0, 0⟩) ∧ Fresh w w' := by
  have hmm := @run_makeMap Try.prog
  go_enter Try.func5, Try.ntmps5
  go_wp2
  go_ret
  refine ⟨rfl, fun base hb => ?_, (((Fresh.refl w).alloc _).alloc _).alloc _⟩
  have d1 := dirIs_made w
  have d2 := dirIs_made (w.alloc (.map #[] 0))
  rw [World.size_alloc] at d2
  have d1' := (d1.move (w' := (w.alloc (.map #[] 0)).alloc (.map #[] 0)) (Below.heap_alloc _ _ _ (by simp)))
  have hnew := at_new ((w.alloc (.map #[] 0)).alloc (.map #[] 0)) (.cells #[.map (some w.heap.size), .map (some (w.heap.size + 1)), .slice none 0 0, .int .i64 0, .int .i64 (-1), .bool false] 53)
  rw [World.size_alloc, World.size_alloc] at hnew
  exact { hb := by omega, blk := hnew, hn := hb, hs := by show base ≤ w.heap.size + 1; omega, ne := by show w.heap.size ≠ w.heap.size + 1; omega
          now := d1'.move (Below.heap_alloc _ _ _ (by simp; omega)), safe := d2.move (Below.heap_alloc _ _ _ (by simp)), row := World.ownsRow_nil _ _ _ _, len1 := Nat.le_refl _, len2 := Nat.le_refl _
          files := fun f hf => by rcases hf with ⟨n, hn⟩ | ⟨n, hn⟩ | ⟨d, hd, _⟩ <;> first | cases hn | cases hd
          ok := ⟨rfl, (fun d hd => by cases hd), by show (-1 : Int) ≤ -1 ∧ (-1 : Int) ≤ 9223372036854775807; omega⟩ }
/-- The step of a range over a directory, with what is left. -/
theorem wpList_next_dir2 (w : World) {ops : Array Oper} {rest : List Oper} {o : Oper} {a : Act} {Q : Exit → Act → World → Prop} (hg : o.guard = none) (it : Operand) (hop : o.op = Op.next it false) (b r n : Nat) (D : DataW Unit) (m : Dir) (hD : DirFact m D) (left : Lit → Bool) (cnt : Nat)
    (hit : a.eval it = .pointer (some ⟨r, 0, none⟩)) (h : w.ranges Try.prog 9 fileR b r n D left cnt)
    (hDone : (∀ kl, left kl = false) → wpList Try.prog ops Q rest (a.put o.dst (.tuple #[.bool false])) w)
    (hMore : ∀ (x : ByteArray) (f : Nat) (w' : World) (cnt' : Nat), m x = some f → left (key x) = true → x.size ≤ maxLen → w'.ranges Try.prog 9 fileR b r n D (fun z => left z && !z.sameKey (key x)) cnt' → cnt' < cnt →
      w.grownBy w' (some r) → w'.heap.size = w.heap.size → (Instr.entry (.pointer (some ⟨r, 0, none⟩))).run Try.prog w' = .ok (.tuple #[.string x, .pointer (some ⟨f, 0, none⟩)]) w' → wpList Try.prog ops Q rest (a.put o.dst (.tuple #[.bool true, .string x, .pointer (some ⟨f, 0, none⟩)])) w') :
    wpList Try.prog ops Q (o :: rest) a w := by
  refine wpList_next_ranges (α := ByteArray) (β := Option Nat) w hg it hop 9 law9 fileR Value.string (fun c => .pointer (c.map fun f => ⟨f, 0, none⟩)) ?_ ?_ b r n D left cnt hit h (fun _ h0 => hDone h0) ?_
  · intro key kl hkey
    cases key <;> simp [keyOf, Try.underlying9, mapKey] at hkey
    exact ⟨_, rfl⟩
  · intro v y hv
    rcases fileR_inv hv with rfl | ⟨f, rfl, _⟩
    · exact ⟨none, rfl⟩
    · exact ⟨some f, rfl⟩
  · intro x c kl y w' cnt' hkey hl hv hat hrg hlt hgr hsz hen
    have hxs : x.size ≤ maxLen := by
      by_cases hs : x.size ≤ maxLen
      · exact hs
      · simp [keyOf, Try.underlying9, mapKey, hs] at hkey
    have hkl : kl = key x := by rw [key_of x hxs] at hkey; exact (Option.some.inj hkey).symm
    subst hkl
    cases hm : m x with
    | none =>
      have := (hD x).1 hm
      rw [Maps.has_true_of_atKey hat] at this
      cases this
    | some f =>
      have h1 := ((hD x).2 f hm).2 .nil
      rw [hat] at h1
      obtain ⟨y1, y2⟩ := y
      dsimp only at h1
      subst h1
      cases c with
      | none => simp [fileR] at hv
      | some f' =>
        have : f' = f := by
          simp [fileR] at hv
          omega
        subst this
        exact hMore x f' w' cnt' hm hl hxs hrg hlt hgr hsz hen
theorem sorts_nil (w : World) : Calls Try.prog 34 #[.slice none 0 0] w fun e w' => e = .returned (.tuple #[]) ∧ w = w' := by
  have hcon := AnyM.slices_Sort_string_none Try.sortS none 0 w
  exact Calls.mono (hcon : Calls Try.prog 34 _ _ _) fun _ _ ⟨a, b⟩ => ⟨a, b.symm⟩
set_option maxRecDepth 100000 in
set_option maxHeartbeats 1000000 in
theorem list_none (h : FsAt base w b s L) (hd : s.down = false) (hno : ∀ x, s.now x = none) : Calls Try.prog 18 #[.pointer (some ⟨b, 0, none⟩)] w fun e w' => e = .returned (.tuple #[.slice none 0 0, .int .i64 0]) ∧ Fresh w w' := by
  have c0 := h.cells.1
  have c5 := h.cells.2.2.2.2.2
  rw [hd] at c5
  obtain ⟨D, hown, hD⟩ := h.now
  have HO := Lib.hid hown
  have HD := Lib.hid hD
  have HN := Lib.hid hno
  clear h hown hD hd hno
  go_enter Try.func18, Try.ntmps18
  go_wp2_with (first
    | (at_range; refine wpList_range_own _ rfl _ 50 rfl 9 63 law9 Try.underlying50 _ L.bn L.nn _ rfl HO.out ?_; intro w0 hrg0 hg0 hs0)
    | go_in)
  go_frame
  have HFR : Hid (Fresh w w0) := (Below.refl _ _).grown hg0 (Nat.le_refl _) (fun j hj => by cases hj)
  have HRG := Lib.hid hrg0
  clear hg0 hs0 hrg0
  go_loopw [4] (fun v wr => v = .slice none 0 0 ∧ wr = w0) (fun _ _ => 0)
  case atStart => exact ⟨rfl, rfl⟩
  case round =>
    obtain ⟨rfl, rfl⟩ := hrel
    go_wp2_with (first
      | (at_next; refine wpList_next_dir2 _ rfl _ rfl L.bn w.heap.size L.nn D s.now HD.out _ _ rfl HRG.out ?_ ?_)
      | go_in)
    · intro _
      go_wp2_with (go_at_call 34; refine (sorts_nil _).mono ?_; rintro e w' ⟨rfl, rfl⟩)
      go_ret2
      exact ⟨rfl, HFR.out⟩
    · intro x f w1 cnt1 hm
      rw [HN.out x] at hm
      cases hm
/-- One name, or none so far. -/
def OneRel (w : World) (L : Lay) (D : DataW Unit) (a : ByteArray) (v : Value) (wr : World) : Prop := ∃ (l : List ByteArray) (left : Lit → Bool) (cnt : Nat), wr.ranges Try.prog 9 fileR L.bn w.heap.size L.nn D left cnt ∧ wr.ownsRow (w.heap.size + 1) 9 1 v l.length (l.map Value.string) ∧ Fresh w wr ∧ ((l = [] ∧ left (key a) = true) ∨ (l = [a] ∧ left (key a) = false))
def OneName (w : World) (e : Ending) (w' : World) : Prop := (∃ g cap, e = .returned (.tuple #[.slice (some ⟨g, 0, none⟩) 1 cap, .int .i64 0])) ∧ Fresh w w'
structure AtStr (B : Nat) (W : World) (v : Value) (l : List ByteArray) (X : Nat) (a : ByteArray) : Prop where
  own : W.ownsRow B 9 1 v l.length (l.map Value.string)
  box : ∀ j u, [Value.string a][j]? = some u → W.cell? ((⟨X, 0, none⟩ : Addr).add j) = some u
  low : B ≤ W.heap.size
theorem str_one (a : ByteArray) : ∀ u ∈ [Value.string a], u.oneCell' = true := by
  intro u hu
  simp only [List.mem_singleton] at hu
  subst hu; rfl
theorem holds_one (g : Nat) (a : ByteArray) (h : w.cell? ⟨g, 0, none⟩ = some (.string a)) (hf : w.frozen? ⟨g, 0, none⟩ = false) : Sort.Holds encStr w g 0 [a.data.toList].toArray := fun j hj => by
  have h0 : j = 0 := by simpa using hj
  subst h0
  exact ⟨h, hf⟩
theorem sorts_one (g cap : Nat) (a : ByteArray) (h : w.cell? ⟨g, 0, none⟩ = some (.string a)) (hf : w.frozen? ⟨g, 0, none⟩ = false) (hg : g < w.heap.size) : Calls Try.prog 34 #[.slice (some ⟨g, 0, none⟩) 1 cap] w fun e w' => e = .returned (.tuple #[]) ∧ w.grownBy w' (some g) := by
  have hcon : Calls Try.prog 34 #[.slice (some ⟨g, 0, none⟩) [a.data.toList].length cap] w _ := AnyM.slices_Sort_string Try.sortS g 0 cap [a.data.toList] w (holds_one g a h hf) hg (by show 1 < 4611686018427387904; omega)
  refine hcon.mono ?_
  rintro e w' ⟨rfl, n, os, rfl⟩
  exact ⟨rfl, sort_world encStr w g n _ os⟩
set_option maxRecDepth 100000 in
set_option maxHeartbeats 1000000 in
theorem list_one (h : FsAt base w b s L) (hd : s.down = false) (a : ByteArray) (hone : ∀ x, s.now x ≠ none ↔ x = a) : Calls Try.prog 18 #[.pointer (some ⟨b, 0, none⟩)] w (OneName w) := by
  obtain ⟨i0, hi, hz0, hz1, hz2⟩ := info_parts info9
  have c0 := h.cells.1
  have c5 := h.cells.2.2.2.2.2
  rw [hd] at c5
  obtain ⟨D, hown, hD⟩ := h.now
  have hbn := hown.lt
  have hha : Hid (Maps.has D (key a) = true) := by
    cases hx : s.now a with
    | none => exact absurd hx ((hone a).2 rfl)
    | some f => exact ((hD a).2 f hx).1
  have HO := Lib.hid hown
  have HD := Lib.hid hD
  have HN := Lib.hid hone
  clear h hown hD hd hone
  go_enter Try.func18, Try.ntmps18
  go_wp2_with (first
    | (at_range; refine wpList_range_own _ rfl _ 50 rfl 9 63 law9 Try.underlying50 _ L.bn L.nn _ rfl HO.out ?_; intro w0 hrg0 hg0 hs0)
    | go_in)
  go_frame
  have HR0 : Hid (OneRel w L D a (.slice none 0 0) w0) := ⟨[], _, _, hrg0, World.ownsRow_nil _ _ _ _, (Below.refl _ _).grown hg0 (Nat.le_refl _) (fun j hj => by cases hj), .inl ⟨rfl, hha.out⟩⟩
  clear hg0 hs0 hrg0
  go_loopw [4] (fun v wr => OneRel w L D a v wr) (fun _ wr => wr.rangeLeft L.bn w.heap.size)
  case atStart => exact HR0.out
  case round =>
    obtain ⟨l, left, cnt, hrg, hown, hfr, hcase⟩ := hrel
    have HRG := Lib.hid hrg
    have HOW := Lib.hid hown
    have HFR := Lib.hid hfr
    have HCA := Lib.hid hcase
    clear hrg hown hfr hcase
    go_wp2_with (first
      | (at_next; refine wpList_next_dir2 _ rfl _ rfl L.bn w.heap.size L.nn D s.now HD.out left cnt rfl HRG.out ?_ ?_)
      | go_in)
    · intro hl0
      have hl1 : l = [a] := by
        rcases HCA.out with ⟨_, h1⟩ | ⟨h1, _⟩
        · rw [hl0] at h1; cases h1
        · exact h1
      have hown := HOW.out
      rw [hl1] at hown
      obtain ⟨g, cap, hv, hBg, hlt⟩ := hown.form (by simp)
      have hv' : u4 = .slice (some ⟨g, 0, none⟩) 1 cap := hv
      have hcell : wr.cell? ⟨g, 0, none⟩ = some (.string a) := by
        have := hown.cells (g := g) (by rw [hv]; rfl) 0 (.string a) rfl
        have ha : (⟨g, 0, none⟩ : Addr).add 0 = ⟨g, 0, none⟩ := by unfold Addr.add; split <;> simp_all
        rwa [ha] at this
      have hfz : wr.frozen? ⟨g, 0, none⟩ = false := by
        rcases hown.2 with ⟨e1, _⟩ | ⟨g', cap', cur, e1, _, hg', _⟩
        · rw [e1] at hv'; cases hv'
        · rw [hv'] at e1
          simp at e1
          rw [← e1.1] at hg'
          simp [World.frozen?, hg']
      have HC := Lib.hid hcell
      have HZ := Lib.hid hfz
      clear HRG HCA hl0 hl1 hown hcell hfz hv HOW
      subst hv'
      go_wp2_with fail
      refine (sorts_one g cap a HC.out HZ.out hlt).mono ?_
      rintro e w1 ⟨rfl, hg1⟩
      have HF1 : Hid (Fresh w w1) := Below.grown HFR.out hg1 HFR.out.size (fun k e => by cases e; omega)
      clear hg1
      go_wp2
      go_ret2
      exact ⟨⟨g, cap, rfl⟩, HF1.out⟩
    · intro x f w1 cnt1 hm hlx hxs hrg1 hlt hg1 hs1 hen
      obtain rfl : x = a := (HN.out x).1 (by rw [hm]; simp)
      have hl0 : l = [] := by
        rcases HCA.out with ⟨h1, _⟩ | ⟨_, h1⟩
        · exact h1
        · rw [hlx] at h1; cases h1
      have hown := HOW.out
      rw [hl0] at hown
      have hk1 : w1.ownsRow (w.heap.size + 1) 9 1 u4 ([] : List ByteArray).length (([] : List ByteArray).map Value.string) := hown.kept hg1 (by
        cases hv : u4.ownBlock with
        | none => exact .inl rfl
        | some k => right; intro e; cases e; have := (hown.lt _ hv).1; omega)
      have hsz1 : w.heap.size + 1 ≤ w1.heap.size := by have := HRG.out.lt; omega
      have hA : Hid (AtStr (w.heap.size + 1) (w1.alloc (.cells #[.string x] 9)) u4 [] w1.heap.size x) := ⟨hk1.alloc _, World.news_of_block (at_new w1 (.cells #[.string x] 9)), by simp; omega⟩
      have hfr1 : Fresh w w1 := Below.grown HFR.out hg1 HFR.out.size (fun k e => by cases e; exact Nat.le_refl _)
      have HFR1 := Lib.hid (hfr1.alloc (.cells #[.string x] 9))
      have HRG1 := Lib.hid hrg1
      clear hm hrg1 hg1 hk1 hfr1 hs1 hl0 hown hlx hxs
      go_wp2_with (first
        | (at_builtin; refine wpList_append_lies _ rfl _ _ 54 rfl (w.heap.size + 1) 9 i0 _ 1 16 Try.underlying54 hi hz0 hz1 hz2 rfl (by decide) u4 0 [] rfl hA.out.own ⟨w1.heap.size, 0, none⟩ 1 1 [.string x] rfl rfl hA.out.box (str_one x) (by decide) (by decide) (by decide) hA.out.low _ rfl ?_; intro g cap w2 hown2 hgrow2 hat2 hlt2; have HOW2 := Lib.hid hown2; have HGR := Lib.hid hgrow2; clear hown2 hgrow2 hat2 hlt2)
        | go_in)
      have hrg2 := (HRG1.out.alloc (.cells #[.string x] 9)).kept HGR.out (fun e => by
        have := (hA.out.own.lt L.bn e.symm).1; omega) (fun e => by
        have := (hA.out.own.lt w.heap.size e.symm).1; omega)
      go_roundw
      case rel => exact ⟨[x], _, cnt1, hrg2, HOW2.out, Below.grown HFR1.out HGR.out HFR1.out.size (fun k e => by have := (hA.out.own.lt k e).1; omega), .inr ⟨rfl, by simp [key, Lit.sameKey]⟩⟩
      case measure => rw [hrg2.left_eq, HRG.out.left_eq]; exact hlt
end Go.Proofs.Ytimcoofmemcojaa
