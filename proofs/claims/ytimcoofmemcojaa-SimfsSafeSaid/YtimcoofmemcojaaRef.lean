/-
  The document's answer for layer 4 (bosunref04): names, directories as lists.
-/
import Derived.Test.YtimcoofmemcojaaPick
namespace Go.Proofs.Ytimcoofmemcojaa
open Go.ChangeShapes Go.WideShapes Go.ChangeAt Go.RowKit
variable {w : World}

/-! ### Name -/
set_option maxRecDepth 100000 in
set_option maxHeartbeats 1000000 in
theorem rname_any (s : ByteArray) (w : World) (hs : s.size ≤ maxLen) : Calls Try.prog 36 #[.string s] w fun e w' => e = .returned (.bool (nameB s)) ∧ w = w' := by
  unfold maxLen at hs
  by_cases h1 : s.size < 1
  · have H := Lib.hid (nameB_short (.inl h1))
    obtain rfl : s = ⟨#[]⟩ := empty_of (by omega)
    clear h1 hs
    go_enter Try.func36, Try.ntmps36
    go_wp2
    go_ret
    exact ⟨by rw [H.out]; rfl, rfl⟩
  by_cases h2 : 64 < s.size
  · have H := Lib.hid (nameB_short (.inr h2))
    go_enter Try.func36, Try.ntmps36
    go_wp2
    go_ret
    exact ⟨by rw [H.out]; rfl, rfl⟩
  have h3 : 1 ≤ s.size := by omega
  have h4 : s.size ≤ 64 := by omega
  clear h1 h2
  go_enter Try.func36, Try.ntmps36
  go_wp2
  go_loop [3] (fun i => ∃ k : Nat, k ≤ s.size ∧ i = .int .i64 k ∧ Good s k) (fun i => s.size - (intOf i).toNat)
  case atStart => exact ⟨0, Nat.zero_le _, rfl, fun j _ hj => absurd hj (Nat.not_lt_zero _)⟩
  case round =>
    obtain ⟨k, hk, rfl, hG⟩ := hrel
    by_cases hlt : k < s.size
    · have hc : 0 ≤ (s[k].toNat : Int) ∧ (s[k].toNat : Int) ≤ 255 := by have := s[k].toNat_lt; omega
      cases hm : mayI s[k].toNat with
      | false =>
        have H := Lib.hid (nameB_bad hlt hm)
        obtain ⟨c1, c2, c3, c4, c5, c6⟩ := may_no_cases hm
        have e3 : ((s[k].toNat : Int) == 46) = false := by simpa using c3
        have e4 : ((s[k].toNat : Int) == 95) = false := by simpa using c4
        have e5 : ((s[k].toNat : Int) == 45) = false := by simpa using c5
        have e6 : ((s[k].toNat : Int) == 47) = false := by simpa using c6
        clear hm hG c3 c4 c5 c6
        by_cases d1 : 97 ≤ (s[k].toNat : Int)
        · have d2 : ¬ (s[k].toNat : Int) ≤ 122 := by omega
          have d3 : 48 ≤ (s[k].toNat : Int) := by omega
          have d4 : ¬ (s[k].toNat : Int) ≤ 57 := by omega
          clear c1 c2
          go_wp2
          go_ret
          exact ⟨by rw [H.out]; rfl, rfl⟩
        by_cases d3 : 48 ≤ (s[k].toNat : Int)
        · have d4 : ¬ (s[k].toNat : Int) ≤ 57 := by omega
          clear c1 c2
          go_wp2
          go_ret
          exact ⟨by rw [H.out]; rfl, rfl⟩
        · clear c1 c2
          go_wp2
          go_ret
          exact ⟨by rw [H.out]; rfl, rfl⟩
      | true =>
        have HM := Lib.hid hm
        have HG : Hid (Good s (k + 1)) := fun j hj hjk => by
          by_cases e : j = k
          · subst e; exact HM.out
          · exact hG j hj (by omega)
        clear hG
        have hcs := may_yes_cases hm
        clear hm
        by_cases d1 : 97 ≤ (s[k].toNat : Int)
        · have d2 : (s[k].toNat : Int) ≤ 122 := by omega
          clear hcs
          go_wp2
          go_round
          case rel => exact ⟨k + 1, by omega, by go_num, HG.out⟩
          case measure => simp [intOf]; omega
        by_cases d3 : 48 ≤ (s[k].toNat : Int)
        · by_cases d4 : (s[k].toNat : Int) ≤ 57
          · clear hcs
            go_wp2
            go_round
            case rel => exact ⟨k + 1, by omega, by go_num, HG.out⟩
            case measure => simp [intOf]; omega
          · have e3 : ((s[k].toNat : Int) == 46) = false := by simp; omega
            have e4 : ((s[k].toNat : Int) == 95) = true := by simp; omega
            clear hcs
            go_wp2
            go_round
            case rel => exact ⟨k + 1, by omega, by go_num, HG.out⟩
            case measure => simp [intOf]; omega
        · have e4 : ((s[k].toNat : Int) == 95) = false := by simp; omega
          by_cases f3 : (s[k].toNat : Int) = 46
          · have e3 : ((s[k].toNat : Int) == 46) = true := by simpa using f3
            clear hcs f3
            go_wp2
            go_round
            case rel => exact ⟨k + 1, by omega, by go_num, HG.out⟩
            case measure => simp [intOf]; omega
          · have e3 : ((s[k].toNat : Int) == 46) = false := by simpa using f3
            by_cases f5 : (s[k].toNat : Int) = 45
            · have e5 : ((s[k].toNat : Int) == 45) = true := by simpa using f5
              clear hcs f3 f5
              go_wp2
              go_round
              case rel => exact ⟨k + 1, by omega, by go_num, HG.out⟩
              case measure => simp [intOf]; omega
            · have e5 : ((s[k].toNat : Int) == 45) = false := by simpa using f5
              have e6 : ((s[k].toNat : Int) == 47) = true := by simp; omega
              clear hcs f3 f5
              go_wp2
              go_round
              case rel => exact ⟨k + 1, by omega, by go_num, HG.out⟩
              case measure => simp [intOf]; omega
    · have H : Hid (nameB s = true) := nameB_good (by omega) (by omega) (fun j hj => hG j hj (by omega))
      clear hG
      go_wp2
      go_ret
      exact ⟨by rw [H.out]; rfl, rfl⟩
theorem rname_yes (s : ByteArray) (w : World) (h : nameB s = true) : Calls Try.prog 36 #[.string s] w fun e w' => e = .returned (.bool true) ∧ w = w' := by
  have := rname_any s w (by have := nameB_size h; unfold maxLen; omega)
  rwa [h] at this
theorem rname_no (s : ByteArray) (w : World) (hs : s.size ≤ maxLen) (h : nameB s = false) : Calls Try.prog 36 #[.string s] w fun e w' => e = .returned (.bool false) ∧ w = w' := by
  have := rname_any s w hs
  rwa [h] at this

/-! ### directories as lists -/
abbrev Und := ByteArray × Int
def Und.cells (u : Und) : List Value := [.string u.1, .int .i64 u.2]
def undCells (l : List Und) : List Value := l.flatMap Und.cells
theorem undCells_length (l : List Und) : (undCells l).length = l.length * 2 := by
  induction l with
  | nil => rfl
  | cons d l ih => simp only [undCells, List.flatMap_cons, List.length_append, List.length_cons] at *; rw [ih]; simp [Und.cells]; omega
theorem undCells_snoc (l : List Und) (d : Und) : undCells (l ++ [d]) = undCells l ++ d.cells := by simp [undCells]
theorem undCells_get (l : List Und) : ∀ (k : Nat) (hk : k < l.length), (undCells l)[k * 2]? = some (.string l[k].1) ∧ (undCells l)[k * 2 + 1]? = some (.int .i64 l[k].2) := by
  induction l with
  | nil => intro k hk; simp at hk
  | cons d l ih =>
    intro k hk
    cases k with
    | zero => simp [undCells, Und.cells]
    | succ k =>
      have := ih k (by simpa using hk)
      simp only [undCells, List.flatMap_cons, Und.cells] at *
      simpa [show (k + 1) * 2 = k * 2 + 2 by omega, show k * 2 + 2 + 1 = k * 2 + 1 + 2 by omega, List.getElem?_append_right] using this
/-- A directory of the document's, in a row of its own from block B on. -/
def undAt (B : Nat) (w : World) (v : Value) (l : List Und) : Prop := w.ownsRow B 94 2 v l.length (undCells l)
theorem undAt.move {B : Nat} {w w' : World} {v : Value} {l : List Und} (h : undAt B w v l) (k : Fresh w w') : undAt B w' v l :=
  World.ownsRow.kept (row := none) h ⟨k.os, k.tape, k.output, k.size, fun i hi _ => k.block i hi⟩ (by cases hv : v.ownBlock <;> simp)
theorem undAt.mono {B B' : Nat} {w : World} {v : Value} {l : List Und} (h : undAt B w v l) (hB : B' ≤ B) : undAt B' w v l := by
  obtain ⟨h1, h2⟩ := h
  refine ⟨h1, h2.imp_right ?_⟩
  rintro ⟨g, cap, cur, e, hb, r⟩
  exact ⟨g, cap, cur, e, Nat.le_trans hB hb, r⟩
theorem undAt.form {B : Nat} {w : World} {v : Value} {l : List Und} (h : undAt B w v l) : (v = .slice none 0 0 ∧ l = []) ∨ ∃ g cap, v = .slice (some ⟨g, 0, none⟩) l.length cap ∧ ∀ k (hk : k < l.length), w.cell? ⟨g, k * 2, none⟩ = some (.string l[k].1) ∧ w.cell? ⟨g, k * 2 + 1, none⟩ = some (.int .i64 l[k].2) := by
  have hc := fun g hg => World.ownsRow.cells h (g := g) hg
  rcases h.2 with ⟨e1, e2⟩ | ⟨g, cap, cur, e1, _⟩
  · exact .inl ⟨e1, List.eq_nil_of_length_eq_zero e2⟩
  · refine .inr ⟨g, cap, e1, fun k hk => ?_⟩
    have ha : ∀ j, (⟨g, 0, none⟩ : Addr).add j = ⟨g, j, none⟩ := fun j => by unfold Addr.add; split <;> simp_all
    obtain ⟨c0, c1⟩ := undCells_get l k hk
    exact ⟨by rw [← ha]; exact hc g (by rw [e1]; rfl) _ _ c0, by rw [← ha]; exact hc g (by rw [e1]; rfl) _ _ c1⟩
/-- The file under a name; -1: none. -/
def atL : List Und → ByteArray → Int
  | [], _ => -1
  | u :: l, name => if u.1 = name then u.2 else atL l name
theorem atL_skip (l : List Und) (name : ByteArray) (k : Nat) (hk : k < l.length) (hne : l[k].1 ≠ name) : atL (l.drop k) name = atL (l.drop (k + 1)) name := by
  rw [List.drop_eq_getElem_cons hk, atL, if_neg hne]
theorem atL_hit (l : List Und) (name : ByteArray) (k : Nat) (hk : k < l.length) (he : l[k].1 = name) : atL (l.drop k) name = l[k].2 := by
  rw [List.drop_eq_getElem_cons hk, atL, if_pos he]
theorem ret_i64 {a b : Int} (h : a = b) : Ending.returned (.int .i64 a) = .returned (.int .i64 b) := by rw [h]
set_option maxRecDepth 100000 in
set_option maxHeartbeats 400000 in
theorem at_any {B : Nat} (v : Value) (l : List Und) (name : ByteArray) (hl : l.length ≤ 1000000) (h : undAt B w v l) : Calls Try.prog 37 #[v, .string name] w fun e w' => e = .returned (.int .i64 (atL l name)) ∧ w = w' := by
  rcases h.form with ⟨rfl, rfl⟩ | ⟨g, cap, rfl, hc⟩
  · clear h
    go_enter Try.func37, Try.ntmps37
    go_wp2
    go_loop [5] (fun i => i = .int .i64 0) (fun _ => 0)
    case atStart => rfl
    case round =>
      obtain rfl := hrel
      go_wp2
      go_ret
      exact ⟨rfl, rfl⟩
  · have HC := Lib.hid hc
    clear h hc
    go_enter Try.func37, Try.ntmps37
    go_wp2
    go_loop [5] (fun i => ∃ k : Nat, k ≤ l.length ∧ i = .int .i64 k ∧ Hid (atL l name = atL (l.drop k) name)) (fun i => l.length - (intOf i).toNat)
    case atStart => exact ⟨0, Nat.zero_le _, rfl, rfl⟩
    case round =>
      obtain ⟨k, hk, rfl, HA⟩ := hrel
      by_cases hlt : k < l.length
      · obtain ⟨c0, c1⟩ := HC.out k hlt
        by_cases he : l[k].1 = name
        · have HH := Lib.hid (atL_hit l name k hlt he)
          have hb : (l[k].1.toList == name.toList) = true := by rw [toList_beq, decide_eq_true he]
          generalize l[k] = u at *
          clear he
          go_wp2
          go_ret
          exact ⟨ret_i64 (by rw [HA.out, HH.out]), rfl⟩
        · have HH := Lib.hid (atL_skip l name k hlt he)
          have hb : (l[k].1.toList == name.toList) = false := by rw [toList_beq, decide_eq_false he]
          generalize l[k] = u at *
          clear he
          go_wp2
          go_round
          case rel => exact ⟨k + 1, by omega, by go_num, by rw [Hid, HA.out, HH.out]⟩
          case measure => simp [intOf]; omega
      · obtain rfl : k = l.length := by omega
        go_wp2
        go_ret
        exact ⟨ret_i64 (by rw [HA.out, List.drop_length]; rfl), rfl⟩
end Go.Proofs.Ytimcoofmemcojaa
