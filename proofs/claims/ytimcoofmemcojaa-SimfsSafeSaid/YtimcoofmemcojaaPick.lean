/-
  slices.IndexFunc and slices.DeleteFunc over files, with the predicate of '(*FS).torn': those whose contents are alike are gone.
-/
import Derived.Test.YtimcoofmemcojaaSettle
import Derived.Deep.LoopGhost
import Derived.Deep.Draws
import Derived.Lib.Walk
import Derived.Lib.SliceRun
import Derived.Laws.IdiomCopy
namespace Go.Proofs.Ytimcoofmemcojaa
open Go.ChangeShapes Go.WideShapes Go.ChangeAt Go.RowKit
variable {base : Nat} {w : World}

/-- Do its contents part? -/
def parts (w : World) (f : Nat) : Prop := ∃ c x y, fileAt w f c x y ∧ x ≠ y
theorem toList_beq (x y : ByteArray) : (x.toList == y.toList) = decide (x = y) := by
  rw [ByteArray.toList_eq, ByteArray.toList_eq]
  by_cases h : x = y
  · subst h; simp
  · rw [decide_eq_false h]
    cases e : x.data.toList == y.data.toList with
    | false => rfl
    | true => exact absurd (ByteArray.ext (Array.ext' (eq_of_beq e))) h
set_option maxHeartbeats 400000 in
theorem pred_any (f : Nat) (c : Int) (x y : ByteArray) (h : fileAt w f c x y) : Calls Try.prog 52 #[.pointer (some ⟨f, 0, none⟩)] w fun e w' => e = .returned (.bool (decide (x = y))) ∧ ∃ q, w' = w.drewN q := by
  obtain ⟨_, q1, q2, _, _, _⟩ := h.cells
  clear h
  go_enter Try.func52, Try.ntmps52
  go_wp2
  go_quiet (fail)
  go_wp2
  go_ret
  exact ⟨by show Ending.returned (.bool (x.toList == y.toList)) = _; rw [toList_beq], _, rfl⟩
/-- Of the predicate: the file goes, or stays. -/
theorem pred_of (f : Nat) (h : isFile base w f) : (Calls Try.prog 52 #[.pointer (some ⟨f, 0, none⟩)] w fun e w' => e = .returned (.bool true) ∧ ∃ q, w' = w.drewN q) ∨ (parts w f ∧ Calls Try.prog 52 #[.pointer (some ⟨f, 0, none⟩)] w fun e w' => e = .returned (.bool false) ∧ ∃ q, w' = w.drewN q) := by
  obtain ⟨_, c, x, y, hx, _⟩ := h
  have hp := pred_any f c x y hx
  by_cases e : x = y
  · rw [decide_eq_true e] at hp; exact .inl hp
  · rw [decide_eq_false e] at hp; exact .inr ⟨⟨c, x, y, hx, e⟩, hp⟩
/-- The first places of block g hold these files. -/
def rowOf (w : World) (g : Nat) (l : List Nat) : Prop := ∀ j (hj : j < l.length), w.cell? ⟨g, j, none⟩ = some (.pointer (some ⟨l[j], 0, none⟩)) ∧ w.frozen? ⟨g, j, none⟩ = false
set_option maxRecDepth 100000 in
set_option maxHeartbeats 1000000 in
theorem index_any (g cap : Nat) (l : List Nat) (hl : l.length ≤ 1000000) (hr : rowOf w g l) (hf : ∀ f ∈ l, isFile base w f) :
    Calls Try.prog 68 #[.slice (some ⟨g, 0, none⟩) l.length cap, .func (.func 52) #[] #[]] w fun e w' => (∃ q, w' = w.drewN q) ∧ ((e = .returned (.int .i64 (-1)) ∧ ∀ f ∈ l, parts w f) ∨ ∃ i : Nat, i < l.length ∧ e = .returned (.int .i64 i) ∧ ∀ f ∈ l.take i, parts w f) := by
  have HR := Lib.hid hr
  have HF := Lib.hid hf
  clear hr hf
  go_enter Try.func68, Try.ntmps68
  go_wp2
  go_loopg [5, 8] l.length (fun gg _ s8 wr => ∃ kk q : Nat, kk ≤ l.length ∧ l.length - kk ≤ gg ∧ s8 = .int .i64 kk ∧ wr = w.drewN q ∧ Hid (∀ f ∈ l.take kk, parts w f))
  case atStart => exact ⟨0, 0, Nat.zero_le _, by omega, rfl, rfl, (fun f hf => by simp at hf)⟩
  case round =>
    obtain ⟨kk, q, hkk, hg, rfl, rfl, A⟩ := hrel
    by_cases hlt : kk < l.length
    · have hcell := (HR.out kk hlt).1
      have hfile : isFile base (w.drewN q) l[kk] := (HF.out l[kk] (List.getElem_mem _))
      have HT : Hid (l.take (kk + 1) = l.take kk ++ [l[kk]]) := List.take_succ_eq_append_getElem hlt
      generalize l[kk] = y at *
      rcases pred_of y hfile with hp | ⟨hpt, hp⟩
      · have HP := Lib.hid hp
        clear hp hfile
        go_wp2_with (go_at_call 52; refine HP.out.mono ?_; rintro e w' ⟨rfl, q', rfl⟩)
        go_ret
        exact ⟨⟨_, rfl⟩, .inr ⟨kk, hlt, rfl, A.out⟩⟩
      · have HP := Lib.hid hp
        have HPT := Lib.hid hpt
        clear hp hfile hpt
        go_wp2_with (go_at_call 52; refine HP.out.mono ?_; rintro e w' ⟨rfl, q', rfl⟩)
        go_roundg (l.length - (kk + 1))
        case measure => omega
        case rel => exact ⟨kk + 1, _, by omega, by omega, by go_num, rfl, fun f hf => by
          rw [HT.out, List.mem_append, List.mem_singleton] at hf
          rcases hf with hf | rfl
          · exact A.out f hf
          · exact HPT.out⟩
    · obtain rfl : kk = l.length := by omega
      go_wp2
      go_ret
      exact ⟨⟨q, rfl⟩, .inl ⟨rfl, fun f hf => A.out f (by rw [List.take_length]; exact hf)⟩⟩
/-- The state of DeleteFunc's loop: i files are kept, from place j on the row is as it was. -/
structure Kp (w : World) (g n : Nat) (l : List Nat) (i j : Nat) (wr : World) : Prop where
  grown : w.grownBy wr (some g)
  lt : i < j
  le : j ≤ n
  kept : ∃ m : List Nat, m.length = i ∧ (∀ f ∈ m, f ∈ l ∧ parts w f) ∧ ∀ k (hk : k < m.length), wr.cell? ⟨g, k, none⟩ = some (.pointer (some ⟨m[k], 0, none⟩))
  rest : ∀ k (hk : k < l.length), j ≤ k → wr.cell? ⟨g, k, none⟩ = some (.pointer (some ⟨l[k], 0, none⟩))
  there : ∀ k, k < n → (wr.cell? ⟨g, k, none⟩).isSome = true ∧ wr.frozen? ⟨g, k, none⟩ = false
theorem grown_drewN {w wr : World} {r : Option Nat} (h : w.grownBy wr r) (q : Nat) : w.grownBy (wr.drewN q) r := ⟨h.os, h.tape, h.output, h.size, h.block⟩
theorem Kp.start {g n : Nat} {l : List Nat} {i : Nat} (hl : n = l.length) (hr : rowOf w g l) (hi : i < l.length) (hp : ∀ f ∈ l.take i, parts w f) (q : Nat) : Kp w g n l i (i + 1) (w.drewN q) where
  grown := ⟨rfl, rfl, rfl, Nat.le_refl _, fun _ _ _ => rfl⟩
  lt := Nat.lt_succ_self _
  le := by omega
  kept := ⟨l.take i, by simp; omega, fun f hf => ⟨List.mem_of_mem_take hf, hp f hf⟩, fun k hk => by
    have hk' : k < l.length := by simp at hk; omega
    have := (hr k hk').1
    rw [List.getElem_take]
    exact this⟩
  rest := fun k hk _ => (hr k hk).1
  there := fun k hk => ⟨by have := (hr k (by omega)).1; show (w.cell? _).isSome = true; rw [this]; rfl, (hr k (by omega)).2⟩
theorem Kp.skip {g n : Nat} {l : List Nat} {i j : Nat} {wr : World} (h : Kp w g n l i j wr) (hj : j < n) (q : Nat) : Kp w g n l i (j + 1) (wr.drewN q) :=
  ⟨grown_drewN h.grown q, Nat.lt_succ_of_lt h.lt, hj, h.kept, fun k hk hjk => h.rest k hk (by omega), h.there⟩
theorem cell_set_other {wr : World} {g k i : Nat} {u : Value} (hne : k ≠ i) : (wr.setCell ⟨g, i, none⟩ u).cell? ⟨g, k, none⟩ = wr.cell? ⟨g, k, none⟩ := by
  have := World.cell?_setCells_out g [u] i wr ⟨g, k, none⟩ (fun _ _ => by simp; omega)
  simpa [World.setCells] using this
theorem cell_set_same {wr : World} {g i : Nat} {u : Value} (h : (wr.cell? ⟨g, i, none⟩).isSome = true) : (wr.setCell ⟨g, i, none⟩ u).cell? ⟨g, i, none⟩ = some u := by
  have := World.cell?_setCells_in g [u] i wr (fun j hj => by
    have : j = 0 := by simpa using hj
    subst this; simpa using h) 0 (by simp)
  simpa [World.setCells] using this
theorem Kp.keep {g n : Nat} {l : List Nat} {i j : Nat} {wr : World} (h : Kp w g n l i j wr) (hn : n = l.length) (hj : j < l.length) (hp : parts w l[j]) (q : Nat) : Kp w g n l (i + 1) (j + 1) ((wr.drewN q).setCell ⟨g, i, none⟩ (.pointer (some ⟨l[j], 0, none⟩))) := by
  obtain ⟨m, hm, hmp, hmc⟩ := h.kept
  have hlt := h.lt
  have hi := h.there i (by omega)
  refine ⟨grownBy_trans (grown_drewN h.grown q) (grown_set _ g i _), by omega, by omega, ⟨m ++ [l[j]], by simp [hm], fun f hf => ?_, fun k hk => ?_⟩, fun k hk hjk => ?_, fun k hk => ⟨?_, ?_⟩⟩
  · rw [List.mem_append, List.mem_singleton] at hf
    rcases hf with hf | rfl
    · exact hmp f hf
    · exact ⟨List.getElem_mem _, hp⟩
  · by_cases e : k = i
    · subst e
      rw [cell_set_same (by exact hi.1)]
      simp [← hm]
    · have hk' : k < m.length := by simp at hk; omega
      rw [cell_set_other e, List.getElem_append_left hk']
      exact hmc k hk'
  · rw [cell_set_other (by omega)]
    exact h.rest k hk (by omega)
  · by_cases e : k = i
    · subst e; rw [cell_set_same (by exact hi.1)]; rfl
    · rw [cell_set_other e]; exact (h.there k hk).1
  · have := World.frozen?_setCells g [.pointer (some ⟨l[j], 0, none⟩)] i (wr.drewN q) ⟨g, k, none⟩
    simp only [World.setCells] at this
    rw [this]; exact (h.there k hk).2
theorem grown_setCells (g : Nat) : ∀ (vs : List Value) (o : Nat) (w : World), w.grownBy (w.setCells g o vs) (some g)
  | [], _, _ => ⟨rfl, rfl, rfl, Nat.le_refl _, fun _ _ _ => rfl⟩
  | v :: vs, o, w => grownBy_trans (grown_set w g o v) (grown_setCells g vs (o + 1) _)
theorem zero63' : ∀ w, (zeroValue 63).run Try.prog w = .ok (.pointer none) w := zero63

/-- What DeleteFunc leaves: files of the row whose contents part. -/
def Picked (w : World) (g cap : Nat) (l : List Nat) (e : Ending) (w' : World) : Prop := ∃ m : List Nat, e = .returned (.slice (some ⟨g, 0, none⟩) m.length cap) ∧ m.length ≤ l.length ∧ rowOf w' g m ∧ (∀ f ∈ m, f ∈ l ∧ parts w f) ∧ w.grownBy w' (some g)
set_option maxRecDepth 100000 in
set_option maxHeartbeats 2000000 in
theorem delete_any (g cap n : Nat) (l : List Nat) (hn : n = l.length) (hl : n ≤ 1000000) (hcap : n ≤ cap) (hcm : cap ≤ maxLen) (hr : rowOf w g l) (hf : ∀ f ∈ l, isFile base w f) (hfg : ∀ f ∈ l, f ≠ g) :
    Calls Try.prog 51 #[.slice (some ⟨g, 0, none⟩) n cap, .func (.func 52) #[] #[]] w (Picked w g cap l) := by
  unfold maxLen at hcm
  have HI := Lib.hid (index_any g cap l (by omega) hr hf)
  have HN := Lib.hid hn
  have HR := Lib.hid hr
  have HF := Lib.hid hf
  have HFG := Lib.hid hfg
  rw [← hn] at HI
  clear hr hf hfg hn
  go_enter Try.func51, Try.ntmps51
  go_wp2_with fail
  refine HI.out.mono ?_
  rintro e w1 ⟨⟨q0, rfl⟩, ⟨rfl, hall⟩ | ⟨i0, hi0, rfl, hall⟩⟩
  · have HA := Lib.hid hall
    clear hall
    go_wp2
    go_ret
    exact ⟨l, by rw [HN.out]; rfl, Nat.le_refl _, HR.out, fun f hf => ⟨hf, HA.out f hf⟩, ⟨rfl, rfl, rfl, Nat.le_refl _, fun _ _ _ => rfl⟩⟩
  · have HA := Lib.hid hall
    have hne1 : ((i0 : Int) == -1) = false := beq_eq_false_iff_ne.2 (by omega)
    clear hall
    go_wp2
    go_loopg [5, 6, 7] n (fun gg s5 s6 _ wr => ∃ i j : Nat, s5 = .int .i64 i ∧ s6 = .int .i64 j ∧ n - j ≤ gg ∧ Kp w g n l i j wr)
    case atStart => exact ⟨i0, i0 + 1, rfl, by go_num, by omega, Kp.start HN.out HR.out (by have := HN.out; omega) HA.out q0⟩
    case round =>
      obtain ⟨i, j, rfl, rfl, hgg, hK⟩ := hrel
      have hij := hK.lt
      have hjn := hK.le
      by_cases hlt : j < n
      · have hjl : j < l.length := by have := HN.out; omega
        have cj := hK.rest j hjl (Nat.le_refl _)
        have hsome := hK.there i (by omega)
        obtain ⟨old, ci⟩ := Option.isSome_iff_exists.1 hsome.1
        have fi := hsome.2
        have hfile : isFile base wr l[j] := by
          have h0 := HF.out l[j] (List.getElem_mem _)
          exact h0.move (hK.grown.block _ h0.lt (by simpa using HFG.out l[j] (List.getElem_mem _)))
        have hpw : parts wr l[j] → parts w l[j] := fun ⟨c, x, y, hx, hne⟩ => ⟨c, x, y, by
          have h0 := HF.out l[j] (List.getElem_mem _)
          have := hK.grown.block _ h0.lt (by simpa using HFG.out l[j] (List.getElem_mem _))
          unfold fileAt at hx ⊢
          rw [← this]; exact hx, hne⟩
        have HK := Lib.hid hK
        have HKEEP : Hid (parts w l[j] → ∀ q, Kp w g n l (i + 1) (j + 1) ((wr.drewN q).setCell ⟨g, i, none⟩ (.pointer (some ⟨l[j], 0, none⟩)))) := fun hp q => hK.keep HN.out hjl hp q
        generalize l[j] = y at *
        rcases pred_of y hfile with hp | ⟨hpt, hp⟩
        · have HP := Lib.hid hp
          clear hp hfile hpw hK hsome
          go_wp2_with (go_at_call 52; refine HP.out.mono ?_; rintro e w' ⟨rfl, q', rfl⟩)
          go_roundg (n - (j + 1))
          case measure => omega
          case rel => exact ⟨i, j + 1, rfl, by go_num, Nat.le_refl _, HK.out.skip hlt _⟩
        · have HP := Lib.hid hp
          have HPT := Lib.hid (hpw hpt)
          clear hp hfile hpt hpw hK hsome
          go_wp2_with (go_at_call 52; refine HP.out.mono ?_; rintro e w' ⟨rfl, q', rfl⟩)
          go_roundg (n - (j + 1))
          case measure => omega
          case rel => exact ⟨i + 1, j + 1, by go_num, by go_num, Nat.le_refl _, HKEEP.out HPT.out _⟩
      · obtain rfl : j = n := by omega
        have hcl : ∀ ty, (Builtin.clear_ #[87] ty #[.slice (some ⟨g, i, none⟩) (j - i) (cap - i)]).run Try.prog wr = .ok (.tuple #[]) (wr.setCells g i (List.replicate (j - i) (.pointer none))) :=
          fun ty => Lib.run_clear_slice wr 87 63 ty _ Try.underlying87 zero63' rfl rfl g i _ _ (by omega) (fun t ht => (hK.there (i + t) (by omega)).1) (fun t ht => (hK.there (i + t) (by omega)).2)
        have HK := Lib.hid hK
        clear hK
        go_wp2
        go_ret
        obtain ⟨m, hm, hmp, hmc⟩ := HK.out.kept
        refine ⟨m, by rw [hm]; rfl, by have := HN.out; omega, fun k hk => ⟨?_, ?_⟩, hmp, grownBy_trans HK.out.grown (grown_setCells g _ _ _)⟩
        · rw [World.cell?_setCells_out g _ _ _ _ (fun _ _ => .inl (by show k < i; omega))]
          exact hmc k hk
        · rw [World.frozen?_setCells]
          exact (HK.out.there k (by omega)).2
end Go.Proofs.Ytimcoofmemcojaa
