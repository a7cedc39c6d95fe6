/-
  The document's Same.
-/
import Derived.Test.YtonakfkiidhebaaDoorRdepth
import Derived.RegionTactic
import Derived.Deep.RegionHeld3
import Derived.Deep.DrawnRows
namespace Go.Proofs.YtonakfkiidhebaaDoor
open Go.ChangeShapes Go.WideShapes Go.ChangeAt Go.RowKit
attribute [local go_sem ↓] Go.wp_at_zero Go.wp_at_succ
variable {w : World}

theorem box6at {w0 w : World} (f : Fresh w0 w) {b : Nat} {c0 c1 c2 c3 c4 c5 : Value} {T : TypeId} {z : Nat × Nat} (h : w0.heap[b]? = some (.cells #[c0, c1, c2, c3, c4, c5] T z)) :
    w.cell? ⟨b, 0, none⟩ = some c0 ∧ w.cell? ⟨b, 1, none⟩ = some c1 ∧ w.cell? ⟨b, 2, none⟩ = some c2 ∧ w.cell? ⟨b, 3, none⟩ = some c3 ∧ w.cell? ⟨b, 4, none⟩ = some c4 ∧ w.cell? ⟨b, 5, none⟩ = some c5 := box6' (f.at h)
set_option maxRecDepth 100000 in
set_option maxHeartbeats 1000000 in
theorem rsame_plain (k k' : Int) (f f' : Bool) (n n' : Int) (s s' : ByteArray) (la la' : Option Addr) (ln lc ln' lc' : Nat) (ka ka' : Option Addr) (kn kc kn' kc' : Nat) (b : Bool) (w : World) (h4 : k ≠ 4) (h5 : k ≠ 5)
    (hb : b = decide (k = k' ∧ (k ≠ 1 ∨ f = f') ∧ (k ≠ 2 ∨ n = n') ∧ (k ≠ 3 ∨ s = s'))) :
    Calls Tryd.prog 14 #[mval k f n s la ln lc ka kn kc, mval k' f' n' s' la' ln' lc' ka' kn' kc'] w fun e w' => e = .returned (.bool b) ∧ Fresh w w' := by
  have e4 : (k == 4) = false := by simpa using h4
  have e5 : (k == 5) = false := by simpa using h5
  by_cases hk : k = k'
  · subst hk
    by_cases h1 : k = 1
    · subst h1
      have HB : Hid (b = decide (f = f')) := by rw [Hid, hb]; simp
      clear hb h4 h5 e4 e5
      cases f with
      | false =>
        cases f' with
        | false =>
          rw [HB.out]
          go_enter Tryd.func14, Tryd.ntmps14
          go_wp2
          go_ret
          exact ⟨rfl, ((Fresh.refl w).alloc _).alloc _⟩
        | true =>
          rw [HB.out]
          go_enter Tryd.func14, Tryd.ntmps14
          go_wp2
          go_ret
          exact ⟨rfl, ((Fresh.refl w).alloc _).alloc _⟩
      | true =>
        cases f' with
        | false =>
          rw [HB.out]
          go_enter Tryd.func14, Tryd.ntmps14
          go_wp2
          go_ret
          exact ⟨rfl, ((Fresh.refl w).alloc _).alloc _⟩
        | true =>
          rw [HB.out]
          go_enter Tryd.func14, Tryd.ntmps14
          go_wp2
          go_ret
          exact ⟨rfl, ((Fresh.refl w).alloc _).alloc _⟩
    have e1 : (k == 1) = false := by simpa using h1
    by_cases h2 : k = 2
    · subst h2
      by_cases hn : n = n'
      · subst hn
        have HB : Hid (b = true) := by rw [Hid, hb]; simp
        rw [HB.out]
        clear hb h4 h5 e4 e5 h1 e1
        go_enter Tryd.func14, Tryd.ntmps14
        go_wp2
        go_ret
        exact ⟨rfl, ((Fresh.refl w).alloc _).alloc _⟩
      · have HB : Hid (b = false) := by rw [Hid, hb]; simp [hn]
        rw [HB.out]
        have en : (n == n') = false := by simpa using hn
        have en2 : (n != n') = true := by simp [hn]
        clear hb h4 h5 e4 e5 h1 e1 hn
        go_enter Tryd.func14, Tryd.ntmps14
        go_wp2
        go_ret
        exact ⟨rfl, ((Fresh.refl w).alloc _).alloc _⟩
    have e2 : (k == 2) = false := by simpa using h2
    by_cases h3 : k = 3
    · subst h3
      by_cases hn : s = s'
      · subst hn
        have HB : Hid (b = true) := by rw [Hid, hb]; simp
        rw [HB.out]
        clear hb h4 h5 e4 e5 h1 e1 h2 e2
        go_enter Tryd.func14, Tryd.ntmps14
        go_wp2
        go_ret
        exact ⟨rfl, ((Fresh.refl w).alloc _).alloc _⟩
      · have HB : Hid (b = false) := by rw [Hid, hb]; simp [hn]
        rw [HB.out]
        have en : (s.toList == s'.toList) = false := by rw [toList_beq, decide_eq_false hn]
        have en2 : (!(s.toList == s'.toList)) = true := by rw [en]; rfl
        have en3 : (s.toList != s'.toList) = true := by rw [bne, en]; rfl
        clear hb h4 h5 e4 e5 h1 e1 h2 e2 hn
        go_enter Tryd.func14, Tryd.ntmps14
        go_wp2
        go_ret
        exact ⟨rfl, ((Fresh.refl w).alloc _).alloc _⟩
    · have HB : Hid (b = true) := by rw [Hid, hb]; simp [h1, h2, h3]
      rw [HB.out]
      have e3 : (k == 3) = false := by simpa using h3
      clear hb h4 h5 h1 h2 h3
      go_enter Tryd.func14, Tryd.ntmps14
      go_wp2
      go_ret
      exact ⟨rfl, ((Fresh.refl w).alloc _).alloc _⟩
  · have HB : Hid (b = false) := by rw [Hid, hb]; simp [hk]
    rw [HB.out]
    have hkb : (k == k') = false := by simpa using hk
    have hkb2 : (k != k') = true := by simp [hk]
    clear hb hk h4 h5
    go_enter Tryd.func14, Tryd.ntmps14
    go_wp2
    go_ret
    exact ⟨rfl, ((Fresh.refl w).alloc _).alloc _⟩
theorem rsame_parted (k k' : Int) (f f' : Bool) (n n' : Int) (s s' : ByteArray) (la la' : Option Addr) (ln lc ln' lc' : Nat) (ka ka' : Option Addr) (kn kc kn' kc' : Nat) (w : World) (hk : k ≠ k') :
    Calls Tryd.prog 14 #[mval k f n s la ln lc ka kn kc, mval k' f' n' s' la' ln' lc' ka' kn' kc'] w fun e w' => e = .returned (.bool false) ∧ Fresh w w' := by
  have hkb : (k == k') = false := by simpa using hk
  have hkb2 : (k != k') = true := by simp [hk]
  clear hk
  go_enter Tryd.func14, Tryd.ntmps14
  go_wp2
  go_ret
  exact ⟨rfl, ((Fresh.refl w).alloc _).alloc _⟩
theorem sameL_drop (l m : List V) (k : Nat) (hl : k < l.length) (hm : k < m.length) : sameL (l.drop k) (m.drop k) = (l[k].same m[k] && sameL (l.drop (k + 1)) (m.drop (k + 1))) := by
  rw [List.drop_eq_getElem_cons hl, List.drop_eq_getElem_cons hm, sameL]
theorem sameL_parted : ∀ {l m : List V}, l.length ≠ m.length → sameL l m = false
  | [], [], h => absurd rfl h
  | _ :: l, _ :: m, h => by
    rw [sameL, sameL_parted (l := l) (m := m) (by simpa using h), Bool.and_false]
  | [], _ :: _, _ => rfl
  | _ :: _, [], _ => rfl
theorem rsame_list_len (f f' : Bool) (n n' : Int) (s s' : ByteArray) (la la' : Option Addr) (ln lc ln' lc' : Nat) (ka ka' : Option Addr) (kn kc kn' kc' : Nat) (w : World) (hne : ln ≠ ln') :
    Calls Tryd.prog 14 #[mval 4 f n s la ln lc ka kn kc, mval 4 f' n' s' la' ln' lc' ka' kn' kc'] w fun e w' => e = .returned (.bool false) ∧ Fresh w w' := by
  have hkb : ((ln : Int) == (ln' : Int)) = false := beq_eq_false_iff_ne.2 (by omega)
  have hkb2 : (ln == ln') = false := by simpa using hne
  clear hne
  go_enter Tryd.func14, Tryd.ntmps14
  go_wp2
  go_ret
  exact ⟨rfl, ((Fresh.refl w).alloc _).alloc _⟩
theorem rsame_keys_len (f f' : Bool) (n n' : Int) (s s' : ByteArray) (la la' : Option Addr) (ln lc ln' lc' : Nat) (ka ka' : Option Addr) (kn kc kn' kc' : Nat) (w : World) (hne : kn ≠ kn') :
    Calls Tryd.prog 14 #[mval 5 f n s la ln lc ka kn kc, mval 5 f' n' s' la' ln' lc' ka' kn' kc'] w fun e w' => e = .returned (.bool false) ∧ Fresh w w' := by
  have hkb : ((kn : Int) == (kn' : Int)) = false := beq_eq_false_iff_ne.2 (by omega)
  have hkb2 : (kn == kn') = false := by simpa using hne
  clear hne
  go_enter Tryd.func14, Tryd.ntmps14
  go_wp2
  go_ret
  exact ⟨rfl, ((Fresh.refl w).alloc _).alloc _⟩
end Go.Proofs.YtonakfkiidhebaaDoor
