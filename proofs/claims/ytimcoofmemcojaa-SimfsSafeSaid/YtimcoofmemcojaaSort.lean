/-
  slices.SortFunc over files, by the time when they came: the row holds the same files.
-/
import Derived.Test.YtimcoofmemcojaaPick
import Derived.Test.YtimcoofmemcojaaShelf
namespace Go.Proofs.Ytimcoofmemcojaa
open Go.ChangeShapes Go.WideShapes Go.ChangeAt Go.RowKit
open Go.Sort (Holds putRow grow PermIn SWO)
variable {base : Nat} {w : World}

theorem compare_any (x y : Int) (w : World) : Calls Try.prog 55 #[.int .i64 x, .int .i64 y] w fun e w' => e = .returned (.int .i64 (Lib.compareInt x y)) ∧ w = w' := by
  unfold Lib.compareInt
  by_cases h1 : x < y
  · rw [if_pos h1]
    go_enter Try.func55, Try.ntmps55
    go_wp2
    go_ret
    exact ⟨rfl, rfl⟩
  · rw [if_neg h1]
    by_cases h2 : x > y
    · rw [if_pos h2]
      have h3 : y < x := h2
      go_enter Try.func55, Try.ntmps55
      go_wp2
      go_ret
      exact ⟨rfl, rfl⟩
    · rw [if_neg h2]
      have h3 : ¬ y < x := h2
      go_enter Try.func55, Try.ntmps55
      go_wp2
      go_ret
      exact ⟨rfl, rfl⟩
set_option maxHeartbeats 400000 in
theorem cmp_any (f f' : Nat) (c c' : Int) (W : World) (h : W.cell? ⟨f, 0, none⟩ = some (.int .i64 c)) (h' : W.cell? ⟨f', 0, none⟩ = some (.int .i64 c')) :
    Calls Try.prog 54 #[.pointer (some ⟨f, 0, none⟩), .pointer (some ⟨f', 0, none⟩)] W fun e w' => e = .returned (.int .i64 (Lib.compareInt c c')) ∧ ∃ q, w' = W.drewN q := by
  have hcon := fun w => compare_any c c' w
  generalize Lib.compareInt c c' = r at *
  have HC := Lib.hid hcon
  clear hcon
  go_enter Try.func54, Try.ntmps54
  go_wp2
  go_quiet ((go_at_call 55; exact Calls.quiet_of_same ((HC.out _).mono fun _ _ ⟨a, b⟩ => ⟨a, b.symm⟩)))
  go_wp2
  go_ret
  exact ⟨rfl, _, rfl⟩
/-- When a file came. -/
def came (w : World) (f : Nat) : Int := match w.heap[f]? with | some (.cells cs _ _) => intOf (cs.getD 0 (.int .i64 0)) | _ => 0
theorem came_of {f : Nat} (h : isFile base w f) : w.cell? ⟨f, 0, none⟩ = some (.int .i64 (came w f)) := by
  obtain ⟨_, c, x, y, hx, _⟩ := h
  have : came w f = c := by unfold came; rw [hx]; rfl
  rw [this]; exact hx.cells.1
def encF {base : Nat} {w : World} (a : { f : Nat // isFile base w f }) : Value := .pointer (some ⟨a.1, 0, none⟩)
theorem swo_came : SWO (ltOf fun (a b : { f : Nat // isFile base w f }) => Lib.compareInt (came w a.1) (came w b.1)) where
  irrefl x := by unfold ltOf Lib.compareInt; simp
  trans x y z h1 h2 := by
    unfold ltOf Lib.compareInt at *
    simp only [decide_eq_true_eq] at *
    split at h1 <;> split at h2 <;> (try split at h1) <;> (try split at h2) <;> simp_all <;> omega
  ntrans x y z h1 h2 := by
    unfold ltOf Lib.compareInt at *
    simp only [decide_eq_false_iff_not] at *
    split at h1 <;> split at h2 <;> (try split at h1) <;> (try split at h2) <;> simp_all <;> omega
theorem sort_world {α : Type} [Inhabited α] (enc : α → Value) (w : World) (g n : Nat) (d : Array α) (os : Array Obj) : w.grownBy (sortWorld enc w g 0 n d os) (some g) := by
  refine ⟨rfl, rfl, rfl, ?_, fun k hk hne => ?_⟩
  · unfold sortWorld
    show w.heap.size ≤ ((putRow enc (Sort.ahead w n) g 0 d).heap ++ os).size
    rw [Array.size_append, Sort.size_putRow]
    exact Nat.le_add_right _ _
  · unfold sortWorld
    rw [Sort.heap_grow_old _ _ (by rw [Sort.size_putRow]; exact hk)]
    have hne' : g ≠ k := fun e => hne (by rw [e])
    simp only [putRow, Sort.mapBlock, Array.getElem?_modify, if_neg hne']
    rfl
def Sorted' (w : World) (g : Nat) (l : List Nat) (e : Ending) (w' : World) : Prop := e = .returned (.tuple #[]) ∧ ∃ m : List Nat, m.length = l.length ∧ (∀ f ∈ m, f ∈ l) ∧ rowOf w' g m ∧ w.grownBy w' (some g)
theorem sort_some (g cap : Nat) (l : List Nat) (hl : l.length ≤ 1000000) (hne : l ≠ []) (hr : rowOf w g l) (hf : ∀ f ∈ l, isFile base w f) (hfg : ∀ f, isFile base w f → f ≠ g) :
    Calls Try.prog 53 #[.slice (some ⟨g, 0, none⟩) l.length cap, .func (.func 54) #[] #[]] w (Sorted' w g l) := by
  obtain ⟨f0, hf0⟩ : ∃ f0, f0 ∈ l := List.exists_mem_of_ne_nil l hne
  let A := { f : Nat // isFile base w f }
  letI : Inhabited A := ⟨⟨f0, hf f0 hf0⟩⟩
  let d : Array A := (l.attach.map fun a => (⟨a.1, hf a.1 a.2⟩ : A)).toArray
  have hsize : d.size = l.length := by simp [d]
  have hget : ∀ j (hj : j < l.length), d[j]! = (⟨l[j], hf _ (List.getElem_mem _)⟩ : A) := fun j hj => by
    rw [getElem!_pos d j (by omega)]
    simp [d]
  have hblk : g < w.heap.size := by
    have h0 : 0 < l.length := List.length_pos_iff.2 hne
    have := (hr 0 h0).1
    exact Classical.byContradiction fun hge => by
      simp [World.cell?, Array.getElem?_eq_none (Nat.le_of_not_lt hge)] at this
  have hH : Holds (encF (base := base) (w := w)) w g 0 d := fun j hj => by
    rw [hsize] at hj
    rw [hget j hj, Nat.zero_add]
    exact hr j hj
  have hcmp : CmpLays1 Try.prog 54 #[] (encF (base := base) (w := w)) (fun a b => Lib.compareInt (came w a.1) (came w b.1)) g 0 d.size w := by
    refine CmpReads.lays ?_
    intro m os dk _ x y
    have hcell : ∀ z : A, (sortWorld (encF (base := base) (w := w)) w g 0 m dk os).cell? ⟨z.1, 0, none⟩ = some (.int .i64 (came w z.1)) := fun z => by
      have := (sort_world (encF (base := base) (w := w)) w g m dk os).block z.1 z.2.lt (by simpa using hfg z.1 z.2)
      rw [World.cell?_of_block (w := w) this]
      exact came_of z.2
    exact cmp_any x.1 y.1 _ _ _ (hcell x) (hcell y)
  have hcon := Any.slices_SortFunc Try.sortF (encF (base := base) (w := w)) (fun _ => rfl) (fun a b => Lib.compareInt (came w a.1) (came w b.1)) swo_came 54 #[] g 0 cap d w (enters_of Try.func54 (by kernel_rfl) rfl) hcmp hH hblk (by omega)
  rw [hsize] at hcon
  refine hcon.mono ?_
  rintro e w' ⟨rfl, d', n, os, hp, _, rfl⟩
  obtain ⟨hs', _, hperm⟩ := hp
  have hex : (d'.extract 0 l.length).toList = d'.toList := by
    rw [show l.length = d'.size by omega]; simp
  have hex2 : (d.extract 0 l.length).toList = d.toList := by
    rw [← hsize]; simp
  rw [hex, hex2] at hperm
  have hH' : Holds (encF (base := base) (w := w)) (sortWorld (encF (base := base) (w := w)) w g 0 n d' os) g 0 d' :=
    Sort.holds_grow _ _ _ _ _ _ (by rw [Sort.size_putRow]; exact hblk) (Sort.holds_putRow _ _ _ _ d d' (fun j hj => hH j hj) hs')
  refine ⟨rfl, d'.toList.map (·.1), by simp; omega, fun f hfm => ?_, fun j hj => ?_, sort_world _ _ _ _ _ _⟩
  · obtain ⟨a, ha, rfl⟩ := List.mem_map.1 hfm
    have := (hperm.mem_iff).1 ha
    simp [d] at this
    obtain ⟨a1, h1, rfl⟩ := this
    exact h1
  · have hj' : j < d'.size := by simpa using hj
    have := hH' j hj'
    rw [getElem!_pos d' j hj', Nat.zero_add] at this
    simpa [encF] using this
theorem frow_ne {wr : World} {g : Nat} {l : List Nat} (hr : rowOf wr g l) (hne : l ≠ []) (f : Nat) (hf : isFile base wr f) : f ≠ g := by
  rintro rfl
  obtain ⟨_, c, x, y, hx, _⟩ := hf
  have h0 := (hr 0 (List.length_pos_iff.2 hne)).1
  rw [hx.cells.1] at h0
  cases h0
theorem sort_any (g cap : Nat) (l : List Nat) (hl : l.length ≤ 1000000) (hr : rowOf w g l) (hf : ∀ f ∈ l, isFile base w f) :
    Calls Try.prog 53 #[.slice (some ⟨g, 0, none⟩) l.length cap, .func (.func 54) #[] #[]] w (Sorted' w g l) := by
  by_cases hne : l = []
  · subst hne
    have hcon := AnyF.slices_SortFunc_none Try.sortF0 (some ⟨g, 0, none⟩) cap (.func (.func 54) #[] #[]) w
    refine Calls.mono (hcon : Calls Try.prog 53 _ _ _) ?_
    rintro e w' ⟨rfl, rfl⟩
    exact ⟨rfl, [], rfl, (fun f h => by cases h), (fun j hj => by simp at hj), ⟨rfl, rfl, rfl, Nat.le_refl _, fun _ _ _ => rfl⟩⟩
  · exact sort_some g cap l hl hne hr hf (frow_ne hr hne)
theorem sort_nil (w : World) (v : Value) : Calls Try.prog 53 #[.slice none 0 0, v] w fun e w' => e = .returned (.tuple #[]) ∧ w = w' := by
  have hcon := AnyF.slices_SortFunc_none Try.sortF0 none 0 v w
  exact Calls.mono (hcon : Calls Try.prog 53 _ _ _) fun _ _ ⟨a, b⟩ => ⟨a, b.symm⟩
end Go.Proofs.Ytimcoofmemcojaa
