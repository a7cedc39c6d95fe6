/-
  The document's texts: are two rows of texts the same?
-/
import Derived.Test.YtfhhmajkacjbgaaDoorSBase
import Derived.Deep.DrawnRows
namespace Go.Proofs.YtfhhmajkacjbgaaDoor
open Go.ChangeShapes Go.WideShapes Go.ChangeAt Go.RowKit
theorem fresh_drewN (w : World) (n : Nat) : Fresh w (w.drewN n) := ⟨rfl, rfl, rfl, Nat.le_refl _, fun _ _ => rfl⟩
/-- Texts, as they are compared. -/
theorem tl_ne {x y : ByteArray} (h : ¬ x = y) : (x.toList == y.toList) = false := by
  rw [beq_eq_false_iff_ne]
  intro e
  rw [Lib.toList_data, Lib.toList_data] at e
  exact h (ByteArray.ext (Array.toList_inj.1 e))
theorem tl_dec (x y : ByteArray) : (x.toList == y.toList) = decide (x = y) := by
  by_cases h : x = y
  · subst h; simp
  · rw [tl_ne h, decide_eq_false h]
theorem lists_eq {α : Type} {l m : List α} (h : l.length = m.length) (k : ∀ j (h1 : j < l.length) (h2 : j < m.length), l[j] = m[j]) : l = m :=
  List.ext_getElem h fun j h1 h2 => k j h1 h2
set_option maxRecDepth 100000 in
set_option maxHeartbeats 1000000 in
theorem rtexts_any (l m : List ByteArray) (a b : Option Addr) (ca cb : Nat) (w : World) (ha : RowAt w a (tcells l)) (hb : RowAt w b (tcells m)) (hl : l.length ≤ 4000000) (hm : m.length ≤ 4000000) :
    Calls Tryd.prog 35 #[.slice a l.length ca, .slice b m.length cb] w fun e w' => e = .returned (.bool (decide (l = m))) ∧ Fresh w w' := by
  by_cases hlen : l.length = m.length
  · have HA := Lib.hid ha
    have HB := Lib.hid hb
    have HLEN := Lib.hid hlen
    clear ha hb
    rw [← hlen]
    clear hlen
    go_enter Tryd.func35, Tryd.ntmps35
    go_wp2
    go_loopw [5] (fun a5 wr => ∃ (k : Nat), a5 = .int .i64 (k : Int) ∧ k ≤ l.length ∧ Hid (Fresh w wr) ∧ Hid (∀ j (h1 : j < l.length) (h2 : j < m.length), j < k → l[j] = m[j])) (fun a5 _ => l.length - (intOf a5).toNat)
    case atStart => exact ⟨0, rfl, Nat.zero_le _, Fresh.refl _, fun _ _ _ h => absurd h (Nat.not_lt_zero _)⟩
    case round =>
      obtain ⟨k, rfl, hk, HF, HE⟩ := hrel
      by_cases hlt : k < l.length
      · have hlt2 : k < m.length := by rw [← HLEN.out]; exact hlt
        obtain ⟨g1, o1, rfl, hc1⟩ := trow_form (HA.out.move HF.out) hlt
        obtain ⟨g2, o2, rfl, hc2⟩ := trow_form (HB.out.move HF.out) hlt2
        have c1 := hc1 k hlt
        have c2 := hc2 k hlt2
        clear hc1 hc2
        have HNO : Hid (l[k] ≠ m[k] → decide (l = m) = false) := fun h => by
          rw [decide_eq_false_iff_not]
          intro e
          subst e
          exact h rfl
        have HYES : Hid (l[k] = m[k] → ∀ j (h1 : j < l.length) (h2 : j < m.length), j < k + 1 → l[j] = m[j]) := fun h j h1 h2 hj => by
          rcases Nat.lt_or_ge j k with h3 | h3
          · exact HE.out j h1 h2 h3
          · obtain rfl : j = k := by omega
            exact h
        generalize l[k] = x at *
        generalize m[k] = y at *
        by_cases hxy : x = y
        · have HY2 := Lib.hid (HYES.out hxy)
          clear HYES HNO
          subst hxy
          go_wp2_with (fail)
          go_quiet (fail)
          go_wp2
          all_goals try (exfalso; omega)
          go_roundw
          case rel => exact ⟨k + 1, by simp, by omega, HF.out.trans (fresh_drewN _ _), HY2.out⟩
          case measure => simp [intOf]; omega
        · have HN2 := Lib.hid (HNO.out hxy)
          clear HYES HNO
          have e0 := tl_ne hxy
          go_wp2_with (fail)
          go_quiet (fail)
          go_wp2
          all_goals try (exfalso; omega)
          go_ret
          exact ⟨ret_bool HN2.out.symm, HF.out.trans (fresh_drewN _ _)⟩
      · obtain rfl : k = l.length := by omega
        have HR : Hid (decide (l = m) = true) := by
          rw [Hid, decide_eq_true_eq]
          exact lists_eq HLEN.out (fun j h1 h2 => HE.out j h1 h2 h1)
        go_wp2
        all_goals try (exfalso; omega)
        go_ret
        exact ⟨ret_bool HR.out.symm, HF.out⟩
  · have HR : Hid (decide (l = m) = false) := by
      rw [Hid, decide_eq_false_iff_not]
      intro e
      exact hlen (by rw [e])
    go_enter Tryd.func35, Tryd.ntmps35
    go_wp2
    all_goals try (exfalso; omega)
    go_ret
    exact ⟨ret_bool HR.out.symm, Fresh.refl _⟩
end Go.Proofs.YtfhhmajkacjbgaaDoor
