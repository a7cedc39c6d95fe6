/-
  What is wrong with ports.
  A map of texts that were met.
  What dns.Label, dns.Variable and what they call return, for every text.
  What dns.Label returns, for every text; dns.Variable, for every short text.
  What dns.Variable and dns.Image return, for every text.
-/
import Derived.Test.YtldncgelghcjeaaGreatDoorCat09
import Derived.Deep.QuietTactic
import Derived.BigQuiet
import Derived.RegionTactic
import Derived.Deep.RegionHeld3
import Derived.Test.YtldncgelghcjeaaGreatDoorCat02
import Derived.Maps.Own
import Derived.Maps.OwnOps
import Derived.Maps.OwnSet
import Derived.Test.YtldncgelghcjeaaGreatDoorCat01
set_option linter.unusedSimpArgs false
set_option linter.unusedVariables false
namespace Go.Proofs.YtldncgelghcjeaaGreatDoor
open Go.ChangeShapes Go.WideShapes Go.ChangeAt Go.RowKit
attribute [local go_sem ↓] Go.wp_at_zero Go.wp_at_succ

theorem memP_take {l : List (Int × Int)} {x : Int × Int} {j : Nat} (h : j < l.length) (hm : memP x (l.take j) = false) : memP x (l.take (j + 1)) = decide (l[j] = x) := by
  rw [List.take_succ_eq_append_getElem h]
  unfold memP at hm ⊢
  rw [List.any_append, hm]
  simp
theorem memP_yes {l : List (Int × Int)} {x : Int × Int} {j : Nat} (h : j < l.length) (e : l[j] = x) : memP x l = true := by
  rw [memP, List.any_eq_true]
  exact ⟨l[j], List.getElem_mem h, by rw [e]; simp⟩
set_option maxRecDepth 100000 in
set_option maxHeartbeats 1000000 in
theorem indexP_any (l : List (Int × Int)) (u v : Int) (a : Option Addr) (c : Nat) (w : World) (h : RowAt w a (pcells l)) (hl : l.length ≤ 1048576) :
    Calls Tryz.prog 184 #[.slice a l.length c, .agg #[.int .i64 u, .int .i64 v]] w fun e w' => ∃ z : Int, e = .returned (.int .i64 z) ∧ decide (0 ≤ z) = memP (u, v) l ∧ Fresh w w' := by
  have HR := Lib.hid h
  have HB := Lib.hid (at_new w (.cells #[.int .i64 u, .int .i64 v] 129))
  have HF0 := Lib.hid ((Fresh.refl w).alloc (.cells #[.int .i64 u, .int .i64 v] 129))
  clear h
  go_enter Tryz.func184, Tryz.ntmps184
  go_wp2
  generalize w.alloc (.cells #[.int .i64 u, .int .i64 v] 129) = W0 at *
  go_loopw [8] (fun a8 wr => ∃ (k : Nat), a8 = .int .i64 (k : Int) ∧ k ≤ l.length ∧ Hid (memP (u, v) (l.take k) = false) ∧ Hid (Fresh W0 wr)) (fun a8 _ => l.length - (intOf a8).toNat)
  case atStart => exact ⟨0, rfl, Nat.zero_le _, rfl, Fresh.refl _⟩
  case round =>
    obtain ⟨k, rfl, hk, HE, HF⟩ := hrel
    have h9 := HF.out.at HB.out
    have r0 := cell_of_at h9 (i := 0) (v := .int .i64 u) rfl
    have r1 := cell_of_at h9 (i := 1) (v := .int .i64 v) rfl
    clear h9
    by_cases hlt : k < l.length
    · obtain ⟨g, o1, rfl, hc⟩ := prow_form ((HR.out.move HF0.out).move HF.out) hlt
      obtain ⟨c0, c1⟩ := hc k hlt
      have HSN := Lib.hid (memP_take hlt HE.out)
      have HYE := Lib.hid (@memP_yes l (u, v) k hlt)
      clear hc
      obtain ⟨y, hy⟩ : ∃ y, y = l[k] := ⟨_, rfl⟩
      rw [← hy] at c0 c1 HSN HYE
      clear hy
      obtain ⟨yn, yp⟩ := y
      dsimp only at c0 c1
      by_cases h1 : u = yn
      · by_cases h2 : v = yp
        · subst h1 h2
          have HM := Lib.hid (HYE.out rfl)
          clear HYE HSN
          go_wp2_with (fail)
          go_quiet (fail)
          go_wp2
          all_goals try (exfalso; omega)
          go_ret
          exact ⟨_, rfl, by rw [HM.out]; exact decide_eq_true (by omega), (HF0.out.trans HF.out).trans (fresh_drewN _ _)⟩
        · have HN : Hid (memP (u, v) (l.take (k + 1)) = false) := by
            rw [Hid, HSN.out, decide_eq_false_iff_not]
            intro e
            cases e
            exact h2 rfl
          subst h1
          have e1 : (v == yp) = false := by rw [beq_eq_false_iff_ne]; exact h2
          clear HYE HSN
          go_wp2_with (fail)
          go_quiet (fail)
          go_wp2
          all_goals try (exfalso; omega)
          go_roundw
          case rel => exact ⟨k + 1, by simp, by omega, HN.out, HF.out.trans (fresh_drewN _ _)⟩
          case measure => simp [intOf]; omega
      · have HN : Hid (memP (u, v) (l.take (k + 1)) = false) := by
          rw [Hid, HSN.out, decide_eq_false_iff_not]
          intro e
          cases e
          exact h1 rfl
        have e1 : (u == yn) = false := by rw [beq_eq_false_iff_ne]; exact h1
        clear HYE HSN
        go_wp2_with (fail)
        go_quiet (fail)
        go_wp2
        all_goals try (exfalso; omega)
        go_roundw
        case rel => exact ⟨k + 1, by simp, by omega, HN.out, HF.out.trans (fresh_drewN _ _)⟩
        case measure => simp [intOf]; omega
    · obtain rfl : k = l.length := by omega
      have HM : Hid (memP (u, v) l = false) := by have := HE.out; rwa [List.take_length] at this
      go_wp2
      all_goals try (exfalso; omega)
      go_ret
      exact ⟨_, rfl, by rw [HM.out]; decide, HF0.out.trans HF.out⟩
set_option maxRecDepth 100000 in
theorem containsP_any (l : List (Int × Int)) (u v : Int) (a : Option Addr) (c : Nat) (w : World) (h : RowAt w a (pcells l)) (hl : l.length ≤ 1048576) :
    Calls Tryz.prog 177 #[.slice a l.length c, .agg #[.int .i64 u, .int .i64 v]] w fun e w' => e = .returned (.bool (memP (u, v) l)) ∧ Fresh w w' := by
  have HF0 := Lib.hid ((Fresh.refl w).alloc (.cells #[.int .i64 u, .int .i64 v] 129))
  have HI := Lib.hid (indexP_any l u v a c _ (h.move HF0.out) hl)
  clear h
  generalize memP (u, v) l = r at *
  go_enter Tryz.func177, Tryz.ntmps177
  go_wp2_with (fail)
  refine HI.out.mono ?_
  rintro e w1 ⟨z, rfl, hz, hf⟩
  have HZ := Lib.hid hz
  clear hz
  go_wp2
  all_goals try (exfalso; omega)
  go_ret
  exact ⟨ret_bool HZ.out, HF0.out.trans hf⟩
theorem prow_take {w : World} {a : Option Addr} {l : List (Int × Int)} (h : RowAt w a (pcells l)) (k : Nat) : RowAt w a (pcells (l.take k)) := by
  by_cases h0 : l = []
  · subst h0; simpa using h
  · have hne : pcells l ≠ [] := pcells_ne (i := 0) (List.length_pos_iff.2 h0)
    obtain ⟨g, o, e, hc⟩ := h.form hne
    refine .inr ⟨g, o, e, fun j x hj => hc j x ?_⟩
    have hs : pcells l = pcells (l.take k) ++ pcells (l.drop k) := by
      unfold pcells
      rw [← List.flatMap_append, List.take_append_drop]
    rw [hs, List.getElem?_append_left (List.getElem?_eq_some_iff.1 hj).1]
    exact hj
set_option maxRecDepth 100000 in
set_option maxHeartbeats 2000000 in
theorem portsFault_any (l : List (Int × Int)) (a : Option Addr) (c : Nat) (w : World) (h : RowAt w a (pcells l)) (hl : l.length ≤ 1048576) (hcap : l.length ≤ c) :
    Calls Tryz.prog 158 #[.slice a l.length c] w fun e w' => e = .returned (.int .i64 (portsE [] l)) ∧ Fresh w w' := by
  have HR := Lib.hid h
  clear h
  have HW := Lib.hid (fun (n m : Int) W => within_any n m W)
  have HK := Lib.hid (fun (n : Int) W => knownP_any n W)
  go_enter Tryz.func158, Tryz.ntmps158
  go_wp2
  go_loopw [7] (fun a7 wr => ∃ (k : Nat), a7 = .int .i64 (k : Int) ∧ k ≤ l.length ∧ Hid (portsE [] l = portsE (l.take k) (l.drop k)) ∧ Hid (Fresh w wr)) (fun a7 _ => l.length - (intOf a7).toNat)
  case atStart => exact ⟨0, rfl, Nat.zero_le _, rfl, Fresh.refl _⟩
  case round =>
    obtain ⟨k, rfl, hk, HE, HF⟩ := hrel
    by_cases hlt : k < l.length
    · obtain ⟨g, o1, rfl, hc⟩ := prow_form (HR.out.move HF.out) hlt
      obtain ⟨c0, c1⟩ := hc k hlt
      have HST : Hid (portsE [] l = if portBad l[k] = true then 7 else if memP l[k] (l.take k) = true then 8 else portsE (l.take (k + 1)) (l.drop (k + 1))) := by
        rw [Hid, HE.out, List.drop_eq_getElem_cons hlt, portsE, List.take_succ_eq_append_getElem hlt]
      have HTL : Hid ((l.take k).length = k) := by rw [Hid, List.length_take]; omega
      have HC : Hid (∀ (x y : Int) W, Fresh wr W → Calls Tryz.prog 177 #[.slice (some ⟨g, o1, none⟩) k c, .agg #[.int .i64 x, .int .i64 y]] W fun e w' => e = .returned (.bool (memP (x, y) (l.take k))) ∧ Fresh W w') := fun x y W f => by
        have := containsP_any (l.take k) x y (some ⟨g, o1, none⟩) c W (prow_take ((HR.out.move HF.out).move f) k) (by have := HTL.out; omega)
        rw [HTL.out] at this
        exact this
      clear hc
      obtain ⟨y, hy⟩ : ∃ y, y = l[k] := ⟨_, rfl⟩
      rw [← hy] at c0 c1 HST
      clear hy
      obtain ⟨pn, pp⟩ := y
      dsimp only at c0 c1
      have HC2 := Lib.hid (HC.out pn pp)
      clear HC
      cases hbad : portBad (pn, pp) with
      | true =>
        have HR2 : Hid (portsE [] l = 7) := by rw [Hid, HST.out, if_pos hbad]
        have hd : pn < 1 ∨ 65535 < pn ∨ pp < 0 ∨ 1 < pp := by
          unfold portBad at hbad
          simp only [Bool.or_eq_true, decide_eq_true_eq] at hbad
          exact hbad
        clear hbad HST HC2
        have HW1 := Lib.hid (fun W => HW.out pn 65535 W)
        have HK1 := Lib.hid (fun W => HK.out pp W)
        by_cases hw : 1 ≤ pn ∧ pn ≤ 65535
        · rw [decide_eq_true hw.1, decide_eq_true hw.2] at HW1
          have hk2 : (decide (0 ≤ pp) && decide (pp < 2)) = false := by
            rw [Bool.eq_false_iff]; intro e
            simp only [Bool.and_eq_true, decide_eq_true_eq] at e
            omega
          rw [hk2] at HK1
          clear hw hk2
          go_wp2_with (first | (go_at_call 125; refine (HW1.out _).mono ?_; rintro e w' ⟨rfl, rfl⟩) | (go_at_call 176; refine (HK1.out _).mono ?_; rintro e w' ⟨rfl, rfl⟩))
          all_goals try (exfalso; omega)
          go_ret
          exact ⟨ret_int HR2.out.symm, HF.out.alloc _⟩
        · have hw2 : (decide (1 ≤ pn) && decide (pn ≤ 65535)) = false := by
            rw [Bool.eq_false_iff]; intro e
            simp only [Bool.and_eq_true, decide_eq_true_eq] at e
            exact hw e
          rw [hw2] at HW1
          clear hw hw2 HK1
          go_wp2_with (first | (go_at_call 125; refine (HW1.out _).mono ?_; rintro e w' ⟨rfl, rfl⟩))
          all_goals try (exfalso; omega)
          go_ret
          exact ⟨ret_int HR2.out.symm, HF.out.alloc _⟩
      | false =>
        have hd : 1 ≤ pn ∧ pn ≤ 65535 ∧ 0 ≤ pp ∧ pp ≤ 1 := by
          unfold portBad at hbad
          simp only [Bool.or_eq_false_iff, decide_eq_false_iff_not] at hbad
          omega
        obtain ⟨z1, z2, z3, z4⟩ := hd
        have HW1 := Lib.hid (fun W => HW.out pn 65535 W)
        have HK1 := Lib.hid (fun W => HK.out pp W)
        rw [decide_eq_true z1, decide_eq_true z2] at HW1
        rw [decide_eq_true z3, decide_eq_true (show pp < 2 by omega)] at HK1
        have HST2 : Hid (portsE [] l = if memP (pn, pp) (l.take k) = true then 8 else portsE (l.take (k + 1)) (l.drop (k + 1))) := by rw [Hid, HST.out, if_neg (by rw [hbad]; decide)]
        clear hbad HST
        have i1 : (0 : Int) ≤ (k : Int) := by omega
        have i2 : (k : Int) ≤ (l.length : Int) := by omega
        have i3 : (k : Int) ≤ (c : Int) := by omega
        have i4 : (l.length : Int) ≤ (c : Int) := by omega
        have HB9 := Lib.hid (at_new wr (.cells #[.int .i64 pn, .int .i64 pp] 129))
        have HF1 := Lib.hid ((Fresh.refl wr).alloc (.cells #[.int .i64 pn, .int .i64 pp] 129))
        cases hm : memP (pn, pp) (l.take k) with
        | true =>
          have HR2 : Hid (portsE [] l = 8) := by rw [Hid, HST2.out, if_pos hm]
          rw [hm] at HC2
          clear hm HST2
          go_wp2_with (first | (go_at_call 125; refine (HW1.out _).mono ?_; rintro e w' ⟨rfl, rfl⟩) | (go_at_call 176; refine (HK1.out _).mono ?_; rintro e w' ⟨rfl, rfl⟩))
          all_goals try (exfalso; omega)
          generalize wr.alloc (.cells #[.int .i64 pn, .int .i64 pp] 129) = W1 at *
          have r0 := cell_of_at HB9.out (i := 0) (v := .int .i64 pn) rfl
          have r1 := cell_of_at HB9.out (i := 1) (v := .int .i64 pp) rfl
          go_region_with (go_at_call 177; refine (HC2.out _ HF1.out.drew).mono ?_; rintro e W2 ⟨rfl, hf⟩; have HF3 := Lib.hid (HF.out.trans (HF1.out.drew.trans hf)); clear hf)
          all_goals go_wp2
          all_goals try (exfalso; omega)
          all_goals go_ret
          all_goals exact ⟨ret_int HR2.out.symm, HF3.out⟩
        | false =>
          have HN2 : Hid (portsE [] l = portsE (l.take (k + 1)) (l.drop (k + 1))) := by rw [Hid, HST2.out, if_neg (by rw [hm]; decide)]
          rw [hm] at HC2
          clear hm HST2
          go_wp2_with (first | (go_at_call 125; refine (HW1.out _).mono ?_; rintro e w' ⟨rfl, rfl⟩) | (go_at_call 176; refine (HK1.out _).mono ?_; rintro e w' ⟨rfl, rfl⟩))
          all_goals try (exfalso; omega)
          generalize wr.alloc (.cells #[.int .i64 pn, .int .i64 pp] 129) = W1 at *
          have r0 := cell_of_at HB9.out (i := 0) (v := .int .i64 pn) rfl
          have r1 := cell_of_at HB9.out (i := 1) (v := .int .i64 pp) rfl
          go_region_with (go_at_call 177; refine (HC2.out _ HF1.out.drew).mono ?_; rintro e W2 ⟨rfl, hf⟩; have HF3 := Lib.hid (HF.out.trans (HF1.out.drew.trans hf)); clear hf)
          all_goals go_wp2
          all_goals try (exfalso; omega)
          all_goals go_roundw
          case rel => exact ⟨k + 1, by simp, by omega, HN2.out, HF3.out⟩
          case measure => simp [intOf]; omega
    · obtain rfl : k = l.length := by omega
      have HR2 : Hid (portsE [] l = 0) := by rw [Hid, HE.out, List.drop_length]; rfl
      go_wp2
      all_goals try (exfalso; omega)
      go_ret
      exact ⟨ret_int HR2.out.symm, HF.out⟩
end Go.Proofs.YtldncgelghcjeaaGreatDoor
namespace Go.Proofs.YtldncgelghcjeaaGreatDoor
open Go.ChangeShapes Go.WideShapes Go.ChangeAt Go.RowKit

def key (s : ByteArray) : Lit := .string s.data.toList
theorem key_inj {a b : ByteArray} (h : key a = key b) : a = b := by
  unfold key at h
  injection h with h
  exact ByteArray.ext (Array.ext' h)
theorem key_of (s : ByteArray) (hs : s.size ≤ 1048576) : keyOf Tryz.prog 9 (.string s) = some (key s) := Go.WideMaps.keyOf_string_mk Tryz.underlying9 (by unfold maxLen; omega)
theorem law9 : Maps.Keyed Tryz.prog 9 := Maps.string_keyed Tryz.underlying9
theorem zero4 (w : World) : (zeroValue 4).run Tryz.prog w = .ok (.bool false) w := by kernel_rfl
def boolR : Value → Option (DataW Unit × List MemPlace)
  | .bool x => some (.lit (.bool x), [])
  | _ => none
theorem boolR_inv {v : Value} {y : DataW Unit × List MemPlace} (h : boolR v = some y) : ∃ x, v = .bool x ∧ y = (.lit (.bool x), []) := by
  unfold boolR at h
  split at h
  · exact ⟨_, rfl, by cases h; rfl⟩
  · cases h
/-- Block b is a map of at most n keys: these were met. -/
def seenIs (w : World) (b n : Nat) (L : List ByteArray) : Prop := ∃ D : DataW Unit, w.ownsMap Tryz.prog 9 boolR b n D ∧ ∀ s : ByteArray, D.atKey (key s) (.lit (.bool false)) = .lit (.bool (memT s L))
theorem seen_made (w : World) : seenIs (w.alloc (.map #[] 0)) w.heap.size 0 [] := ⟨_, World.ownsMap_made w _ _ _, fun _ => rfl⟩
theorem seenIs.look {w : World} {b n : Nat} {L : List ByteArray} (h : seenIs w b n L) (s : ByteArray) (hs : s.size ≤ 1048576) : (Instr.lookup 205 (.map (some b)) (.string s) false).run Tryz.prog w = .ok (.bool (memT s L)) w := by
  obtain ⟨D, h1, h2⟩ := h
  obtain ⟨v, ps, hr, hv⟩ := h1.lookup law9 Tryz.underlying205 (zero4 w) (zd := .lit (.bool false)) (zp := []) rfl (key_of s hs)
  obtain ⟨x, rfl, e⟩ := boolR_inv hv
  rw [h2 s] at e
  simp only [Prod.mk.injEq, DataW.lit.injEq, Lit.bool.injEq] at e
  rw [e.1]; exact hr
theorem seenIs.move {w w' : World} {b n : Nat} {L : List ByteArray} (h : seenIs w b n L) (hb : w'.heap[b]? = w.heap[b]?) : seenIs w' b n L := by
  obtain ⟨D, ⟨es, clock, h1, r⟩, h2⟩ := h
  exact ⟨D, ⟨es, clock, hb.trans h1, r⟩, h2⟩
theorem seenIs.lt {w : World} {b n : Nat} {L : List ByteArray} (h : seenIs w b n L) : b < w.heap.size := by
  obtain ⟨D, h1, _⟩ := h; exact h1.lt
theorem seenIs.fresh {w w' : World} {b n : Nat} {L : List ByteArray} (h : seenIs w b n L) (f : Fresh w w') : seenIs w' b n L := h.move (f.block b h.lt)
theorem seen_put {D : DataW Unit} {L : List ByteArray} (hD : Maps.IsMap D) (h : ∀ s : ByteArray, D.atKey (key s) (.lit (.bool false)) = .lit (.bool (memT s L))) (nm : ByteArray) (hn : nm.size ≤ 1048576) (s : ByteArray) :
    (D.put (key nm) (.lit (.bool true))).atKey (key s) (.lit (.bool false)) = .lit (.bool (memT s (L ++ [nm]))) := by
  have hk : WideAt.IsKeyLit (key nm) := law9.key (v := .string nm) (l := key nm) (key_of nm hn)
  by_cases hs : s = nm
  · subst hs
    have e : memT s (L ++ [s]) = true := by simp [memT]
    rw [Maps.atKey_put_same hD hk, e]
  · rw [Maps.atKey_put_other (fun e => hs (key_inj e)), h s]
    have e : memT s (L ++ [nm]) = memT s L := by simp [memT, Ne.symm hs]
    rw [e]
/-- What is wrong with a name, of which is told whether it may be, behind these. -/
def nameE (may : Bool) (s : ByteArray) (L : List ByteArray) : Int := if may = true then (if memT s L = true then 8 else 0) else 13
set_option maxRecDepth 100000 in
theorem nameFault_any (s : ByteArray) (may : Bool) (b n : Nat) (L : List ByteArray) (w : World) (hs : s.size ≤ 1048576) (hn : n ≤ 1048576) (h : seenIs w b n L) :
    Calls Tryz.prog 155 #[.string s, .bool may, .map (some b)] w fun e w' => e = .returned (.int .i64 (nameE may s L)) ∧ (nameE may s L = 0 → seenIs w' b (n + 1) (L ++ [s])) ∧ w.grownBy w' (some b) := by
  have hg0 : w.grownBy w (some b) := ⟨rfl, rfl, rfl, Nat.le_refl _, fun _ _ _ => rfl⟩
  cases may with
  | false =>
    have HE : Hid (nameE false s L = 13) := rfl
    have HG := Lib.hid hg0
    clear h hg0
    generalize nameE false s L = E at *
    go_enter Tryz.func155, Tryz.ntmps155
    go_wp2
    go_ret
    exact ⟨ret_int HE.out.symm, fun e => absurd (HE.out.symm.trans e) (by decide), HG.out⟩
  | true =>
    have hlook := h.look s hs
    cases hm : memT s L with
    | true =>
      have HE : Hid (nameE true s L = 8) := by rw [Hid, nameE, if_pos rfl, if_pos hm]
      have HG := Lib.hid hg0
      rw [hm] at hlook
      clear h hg0 hm
      generalize nameE true s L = E at *
      go_enter Tryz.func155, Tryz.ntmps155
      go_wp2
      go_ret
      exact ⟨ret_int HE.out.symm, fun e => absurd (HE.out.symm.trans e) (by decide), HG.out⟩
    | false =>
      have HE : Hid (nameE true s L = 0) := by rw [Hid, nameE, if_pos rfl, if_neg (by rw [hm]; decide)]
      rw [hm] at hlook
      obtain ⟨D, hown, hD⟩ := h
      have HO := Lib.hid hown
      have HD := Lib.hid hD
      clear hm hown hD hg0
      generalize nameE true s L = E at *
      go_enter Tryz.func155, Tryz.ntmps155
      go_wp2_with (at_mapUpdate; refine wpList_mapUpdate_own _ rfl _ _ _ 205 rfl 9 4 law9 Tryz.underlying205 boolR b n D rfl HO.out (by unfold maxLen; omega) _ _ _ rfl rfl (key_of s hs) _ [] rfl ?_; intro w5 ho5 hg5; have HO5 := Lib.hid ho5; have HG5 := Lib.hid hg5; clear ho5 hg5)
      go_ret
      exact ⟨ret_int HE.out.symm, fun _ => ⟨_, HO5.out, fun t => seen_put HO.out.isMap HD.out s hs t⟩, HG5.out⟩
end Go.Proofs.YtldncgelghcjeaaGreatDoor
namespace Go.Proofs.YtldncgelghcjeaaGreatDoor
open Go.ChangeShapes Go.WideShapes Go.ChangeAt Go.RowKit

theorem small_any (c : UInt8) (w : World) : Calls Tryz.prog 170 #[.int .u8 (c.toNat : Int)] w fun e w' => e = .returned (.bool (smallB c)) ∧ w = w' := by
  have HC : Hid (smallB c = (decide (97 ≤ c.toNat) && decide (c.toNat ≤ 122))) := rfl
  generalize smallB c = r at *
  generalize c.toNat = n at *
  go_enter Tryz.func170, Tryz.ntmps170
  go_wp2
  all_goals go_ret
  all_goals refine ⟨?_, rfl⟩
  all_goals rw [HC.out]
  all_goals refine ret_bool ?_
  all_goals rw [Bool.eq_iff_iff]
  all_goals simp only [Bool.and_eq_true, decide_eq_true_eq, Bool.false_eq_true, false_iff]
  all_goals omega
theorem cap_any (c : UInt8) (w : World) : Calls Tryz.prog 173 #[.int .u8 (c.toNat : Int)] w fun e w' => e = .returned (.bool (capB c)) ∧ w = w' := by
  have HC : Hid (capB c = (decide (65 ≤ c.toNat) && decide (c.toNat ≤ 90))) := rfl
  generalize capB c = r at *
  generalize c.toNat = n at *
  go_enter Tryz.func173, Tryz.ntmps173
  go_wp2
  all_goals go_ret
  all_goals refine ⟨?_, rfl⟩
  all_goals rw [HC.out]
  all_goals refine ret_bool ?_
  all_goals rw [Bool.eq_iff_iff]
  all_goals simp only [Bool.and_eq_true, decide_eq_true_eq, Bool.false_eq_true, false_iff]
  all_goals omega
theorem dig_any (c : UInt8) (w : World) : Calls Tryz.prog 153 #[.int .u8 (c.toNat : Int)] w fun e w' => e = .returned (.bool (digB c)) ∧ w = w' := by
  have HC : Hid (digB c = (decide (48 ≤ c.toNat) && decide (c.toNat ≤ 57))) := rfl
  generalize digB c = r at *
  generalize c.toNat = n at *
  go_enter Tryz.func153, Tryz.ntmps153
  go_wp2
  all_goals go_ret
  all_goals refine ⟨?_, rfl⟩
  all_goals rw [HC.out]
  all_goals refine ret_bool ?_
  all_goals rw [Bool.eq_iff_iff]
  all_goals simp only [Bool.and_eq_true, decide_eq_true_eq, Bool.false_eq_true, false_iff]
  all_goals omega
theorem inl_any (c : UInt8) (w : World) : Calls Tryz.prog 151 #[.int .u8 (c.toNat : Int)] w fun e w' => e = .returned (.bool (inL c)) ∧ w = w' := by
  have Hsmall := Lib.hid (fun W => small_any c W)
  have Hdig := Lib.hid (fun W => dig_any c W)
  have HC : Hid (inL c = (smallB c || (digB c || c == 45))) := rfl
  have H9 : Hid ((c == 45) = decide (c.toNat = 45)) := by
    rw [Hid, Bool.eq_iff_iff]
    simp only [beq_iff_eq, decide_eq_true_eq]
    rw [← UInt8.toNat_inj]; rfl
  generalize smallB c = b0 at *
  generalize digB c = b1 at *
  generalize (c == 45) = z at *
  generalize inL c = r at *
  generalize c.toNat = n at *
  cases b0 <;> cases b1
  all_goals go_enter Tryz.func151, Tryz.ntmps151
  all_goals go_wp2_with (first | (go_at_call 170; refine (Hsmall.out _).mono ?_; rintro e w' ⟨rfl, rfl⟩) | (go_at_call 153; refine (Hdig.out _).mono ?_; rintro e w' ⟨rfl, rfl⟩))
  all_goals go_ret
  all_goals refine ⟨?_, rfl⟩
  all_goals rw [HC.out]
  all_goals refine ret_bool ?_
  all_goals (try rw [H9.out])
  all_goals (try (rw [Bool.eq_iff_iff]; simp))
  all_goals (try omega)
theorem inv_any (c : UInt8) (w : World) : Calls Tryz.prog 154 #[.int .u8 (c.toNat : Int)] w fun e w' => e = .returned (.bool (inV c)) ∧ w = w' := by
  have Hsmall := Lib.hid (fun W => small_any c W)
  have Hcap := Lib.hid (fun W => cap_any c W)
  have Hdig := Lib.hid (fun W => dig_any c W)
  have HC : Hid (inV c = (smallB c || (capB c || (digB c || c == 95)))) := rfl
  have H9 : Hid ((c == 95) = decide (c.toNat = 95)) := by
    rw [Hid, Bool.eq_iff_iff]
    simp only [beq_iff_eq, decide_eq_true_eq]
    rw [← UInt8.toNat_inj]; rfl
  generalize smallB c = b0 at *
  generalize capB c = b1 at *
  generalize digB c = b2 at *
  generalize (c == 95) = z at *
  generalize inV c = r at *
  generalize c.toNat = n at *
  cases b0 <;> cases b1 <;> cases b2
  all_goals go_enter Tryz.func154, Tryz.ntmps154
  all_goals go_wp2_with (first | (go_at_call 170; refine (Hsmall.out _).mono ?_; rintro e w' ⟨rfl, rfl⟩) | (go_at_call 173; refine (Hcap.out _).mono ?_; rintro e w' ⟨rfl, rfl⟩) | (go_at_call 153; refine (Hdig.out _).mono ?_; rintro e w' ⟨rfl, rfl⟩))
  all_goals go_ret
  all_goals refine ⟨?_, rfl⟩
  all_goals rw [HC.out]
  all_goals refine ret_bool ?_
  all_goals (try rw [H9.out])
  all_goals (try (rw [Bool.eq_iff_iff]; simp))
  all_goals (try omega)
theorem fits_any (s : ByteArray) (m : Nat) (w : World) (hs : s.size ≤ maxLen) : Calls Tryz.prog 149 #[.string s, .int .i64 (m : Int)] w fun e w' => e = .returned (.bool (decide (1 ≤ s.size) && decide (s.size ≤ m))) ∧ w = w' := by
  unfold maxLen at hs
  go_enter Tryz.func149, Tryz.ntmps149
  go_wp2
  all_goals go_ret
  all_goals refine ⟨?_, rfl⟩
  all_goals refine ret_bool ?_
  all_goals rw [Bool.eq_iff_iff]
  all_goals simp only [Bool.and_eq_true, decide_eq_true_eq, Bool.false_eq_true, false_iff]
  all_goals omega
set_option maxRecDepth 100000 in
theorem allL_any (s : ByteArray) (w : World) (hs : s.size ≤ 1000) : Calls Tryz.prog 150 #[.string s, .func (.func 151) #[] #[]] w fun e w' => e = .returned (.bool (s.data.toList.all inL)) ∧ w = w' := by
  have HP := Lib.hid (fun c W => inl_any c W)
  have HSZ : Hid (s.data.toList.length = s.size) := by rw [Hid]; simp
  go_enter Tryz.func150, Tryz.ntmps150
  go_wp2
  go_loopw [8] (fun a8 wr => ∃ (k : Nat), a8 = .int .i64 (k : Int) ∧ k ≤ s.size ∧ w = wr ∧ Hid (∀ c ∈ s.data.toList.take k, inL c = true)) (fun a8 _ => s.size - (intOf a8).toNat)
  case atStart => exact ⟨0, rfl, Nat.zero_le _, rfl, by simp [Hid]⟩
  case round =>
    obtain ⟨k, rfl, hk, rfl, HA⟩ := hrel
    by_cases hlt : k < s.size
    · have HG : Hid (s.data.toList[k]? = some s[k]) := by rw [Hid, List.getElem?_eq_getElem (by rw [HSZ.out]; exact hlt)]; rfl
      have HT := Lib.hid (take_snoc s k hlt)
      have HC := Lib.hid (fun W => HP.out s[k] W)
      cases hp : inL s[k] with
      | false =>
        rw [hp] at HC
        have HR : Hid (s.data.toList.all inL = false) := by
          rw [Hid, Bool.eq_false_iff]
          intro h
          have := List.all_eq_true.1 h s[k] (List.mem_of_getElem? HG.out)
          rw [hp] at this; cases this
        clear hp
        go_wp2_with (go_at_call 151; refine (HC.out _).mono ?_; rintro e w' ⟨rfl, rfl⟩)
        all_goals try (exfalso; omega)
        go_ret
        exact ⟨ret_bool HR.out.symm, rfl⟩
      | true =>
        rw [hp] at HC
        have HN : Hid (∀ c ∈ s.data.toList.take (k + 1), inL c = true) := by
          rw [Hid, HT.out]
          intro c hc
          rcases List.mem_append.1 hc with h | h
          · exact HA.out c h
          · rw [List.mem_singleton.1 h]; exact hp
        clear hp
        go_wp2_with (go_at_call 151; refine (HC.out _).mono ?_; rintro e w' ⟨rfl, rfl⟩)
        all_goals try (exfalso; omega)
        go_roundw
        case rel => exact ⟨k + 1, by simp, by omega, by trivial, HN.out⟩
        case measure => simp [intOf]; omega
    · obtain rfl : k = s.size := by omega
      have HR : Hid (s.data.toList.all inL = true) := by
        rw [Hid, List.all_eq_true]
        intro c hc
        exact HA.out c (by rw [← HSZ.out, List.take_length]; exact hc)
      go_wp2
      all_goals try (exfalso; omega)
      go_ret
      exact ⟨ret_bool HR.out.symm, rfl⟩
set_option maxRecDepth 100000 in
theorem allV_any (s : ByteArray) (w : World) (hs : s.size ≤ 1000) : Calls Tryz.prog 150 #[.string s, .func (.func 154) #[] #[]] w fun e w' => e = .returned (.bool (s.data.toList.all inV)) ∧ w = w' := by
  have HP := Lib.hid (fun c W => inv_any c W)
  have HSZ : Hid (s.data.toList.length = s.size) := by rw [Hid]; simp
  go_enter Tryz.func150, Tryz.ntmps150
  go_wp2
  go_loopw [8] (fun a8 wr => ∃ (k : Nat), a8 = .int .i64 (k : Int) ∧ k ≤ s.size ∧ w = wr ∧ Hid (∀ c ∈ s.data.toList.take k, inV c = true)) (fun a8 _ => s.size - (intOf a8).toNat)
  case atStart => exact ⟨0, rfl, Nat.zero_le _, rfl, by simp [Hid]⟩
  case round =>
    obtain ⟨k, rfl, hk, rfl, HA⟩ := hrel
    by_cases hlt : k < s.size
    · have HG : Hid (s.data.toList[k]? = some s[k]) := by rw [Hid, List.getElem?_eq_getElem (by rw [HSZ.out]; exact hlt)]; rfl
      have HT := Lib.hid (take_snoc s k hlt)
      have HC := Lib.hid (fun W => HP.out s[k] W)
      cases hp : inV s[k] with
      | false =>
        rw [hp] at HC
        have HR : Hid (s.data.toList.all inV = false) := by
          rw [Hid, Bool.eq_false_iff]
          intro h
          have := List.all_eq_true.1 h s[k] (List.mem_of_getElem? HG.out)
          rw [hp] at this; cases this
        clear hp
        go_wp2_with (go_at_call 154; refine (HC.out _).mono ?_; rintro e w' ⟨rfl, rfl⟩)
        all_goals try (exfalso; omega)
        go_ret
        exact ⟨ret_bool HR.out.symm, rfl⟩
      | true =>
        rw [hp] at HC
        have HN : Hid (∀ c ∈ s.data.toList.take (k + 1), inV c = true) := by
          rw [Hid, HT.out]
          intro c hc
          rcases List.mem_append.1 hc with h | h
          · exact HA.out c h
          · rw [List.mem_singleton.1 h]; exact hp
        clear hp
        go_wp2_with (go_at_call 154; refine (HC.out _).mono ?_; rintro e w' ⟨rfl, rfl⟩)
        all_goals try (exfalso; omega)
        go_roundw
        case rel => exact ⟨k + 1, by simp, by omega, by trivial, HN.out⟩
        case measure => simp [intOf]; omega
    · obtain rfl : k = s.size := by omega
      have HR : Hid (s.data.toList.all inV = true) := by
        rw [Hid, List.all_eq_true]
        intro c hc
        exact HA.out c (by rw [← HSZ.out, List.take_length]; exact hc)
      go_wp2
      all_goals try (exfalso; omega)
      go_ret
      exact ⟨ret_bool HR.out.symm, rfl⟩
end Go.Proofs.YtldncgelghcjeaaGreatDoor
namespace Go.Proofs.YtldncgelghcjeaaGreatDoor
open Go.ChangeShapes Go.WideShapes Go.ChangeAt Go.RowKit

set_option maxRecDepth 100000 in
theorem label_any (s : ByteArray) (w : World) (hs : s.size ≤ maxLen) : Calls Tryz.prog 121 #[.string s] w fun e w' => e = .returned (.bool (labB s.data.toList)) ∧ w = w' := by
  have HSZ : Hid (s.data.toList.length = s.size) := by rw [Hid]; simp
  have HF := Lib.hid (fun W => fits_any s 63 W hs)
  have HL : Hid (labB s.data.toList = ((decide (1 ≤ s.size) && decide (s.size ≤ 63)) && (s.data.toList.head? != some 45 && (s.data.toList.getLast? != some 45 && s.data.toList.all inL)))) := by
    rw [Hid, labB, HSZ.out]
  cases hf : (decide (1 ≤ s.size) && decide (s.size ≤ 63)) with
  | false =>
    rw [hf] at HF HL
    clear hf hs
    generalize labB s.data.toList = r at *
    go_enter Tryz.func121, Tryz.ntmps121
    go_wp2_with (go_at_call 149; refine (HF.out _).mono ?_; rintro e w' ⟨rfl, rfl⟩)
    go_ret
    exact ⟨ret_bool (by rw [HL.out]; rfl), rfl⟩
  | true =>
    rw [hf] at HF HL
    simp only [Bool.and_eq_true, decide_eq_true_eq] at hf
    obtain ⟨h1, h2⟩ := hf
    have HA := Lib.hid (fun W => allL_any s W (by omega))
    have hlast : s.size - 1 < s.size := by omega
    have h0 : 0 < s.size := by omega
    have HH : Hid (s.data.toList.head? = some s[0]) := by
      rw [Hid, List.head?_eq_getElem?, List.getElem?_eq_getElem (by rw [HSZ.out]; exact h0)]; rfl
    have HE : Hid (s.data.toList.getLast? = some s[s.size - 1]) := by
      rw [Hid, List.getLast?_eq_getElem?, HSZ.out, List.getElem?_eq_getElem (by rw [HSZ.out]; exact hlast)]; rfl
    have e1 : ((s.size : Int) - 1) = ((s.size - 1 : Nat) : Int) := by omega
    have HL2 : Hid (labB s.data.toList = (some s[0] != some 45 && (some s[s.size - 1] != some 45 && s.data.toList.all inL))) := by
      rw [Hid, HL.out, HH.out, HE.out]; rfl
    have key : ∀ c : UInt8, (some c != some (45 : UInt8)) = decide (¬ ((c.toNat : Int) = 45)) := fun c => by
      rw [Bool.eq_iff_iff]
      simp only [bne_iff_ne, ne_eq, Option.some.injEq, decide_eq_true_eq, ← UInt8.toNat_inj]
      show ¬ c.toNat = 45 ↔ _
      omega
    have B0 := Lib.hid (key s[0])
    have B1 := Lib.hid (key s[s.size - 1])
    clear HL HH HE hs key
    generalize labB s.data.toList = r at *
    generalize s.data.toList.all inL = al at *
    go_enter Tryz.func121, Tryz.ntmps121
    go_wp2_with (first | (go_at_call 149; refine (HF.out _).mono ?_; rintro e w' ⟨rfl, rfl⟩) | (go_at_call 150; refine (HA.out _).mono ?_; rintro e w' ⟨rfl, rfl⟩))
    all_goals go_ret
    all_goals refine ⟨?_, rfl⟩
    all_goals refine ret_bool ?_
    all_goals rw [HL2.out, B0.out, B1.out]
    all_goals simp [*]
set_option maxRecDepth 100000 in
theorem var_any (w : World) : Calls Tryz.prog 123 #[.string ⟨#[95, 88]⟩] w fun e w' => e = .returned (.bool true) ∧ w = w' := by
  have HF : Hid (∀ W, Calls Tryz.prog 149 #[.string ⟨#[95, 88]⟩, .int .i64 63] W fun e w' => e = .returned (.bool true) ∧ W = w') := fun W => fits_any ⟨#[95, 88]⟩ 63 W (by decide)
  have HD : Hid (∀ W, Calls Tryz.prog 153 #[.int .u8 95] W fun e w' => e = .returned (.bool false) ∧ W = w') := fun W => dig_any 95 W
  have HA : Hid (∀ W, Calls Tryz.prog 150 #[.string ⟨#[95, 88]⟩, .func (.func 154) #[] #[]] W fun e w' => e = .returned (.bool true) ∧ W = w') := fun W => allV_any ⟨#[95, 88]⟩ W (by decide)
  go_enter Tryz.func123, Tryz.ntmps123
  go_wp2_with (first | (go_at_call 149; refine (HF.out _).mono ?_; rintro e w' ⟨rfl, rfl⟩) | (go_at_call 153; refine (HD.out _).mono ?_; rintro e w' ⟨rfl, rfl⟩) | (go_at_call 150; refine (HA.out _).mono ?_; rintro e w' ⟨rfl, rfl⟩))
  go_ret
  exact ⟨rfl, rfl⟩
end Go.Proofs.YtldncgelghcjeaaGreatDoor
namespace Go.Proofs.YtldncgelghcjeaaGreatDoor
open Go.ChangeShapes Go.WideShapes Go.ChangeAt Go.RowKit

set_option maxRecDepth 100000 in
theorem ini_any (c : UInt8) (w : World) : Calls Tryz.prog 174 #[.int .u8 (c.toNat : Int)] w fun e w' => e = .returned (.bool (inI c)) ∧ w = w' := by
  have Hsmall := Lib.hid (fun W => small_any c W)
  have Hcap := Lib.hid (fun W => cap_any c W)
  have Hdig := Lib.hid (fun W => dig_any c W)
  have HZ : Hid (∀ (d : UInt8) (m : Nat), d.toNat = m → (c == d) = decide (c.toNat = m)) := fun d m hm => by
    subst hm
    rw [Bool.eq_iff_iff]
    simp only [beq_iff_eq, decide_eq_true_eq]
    rw [← UInt8.toNat_inj]
  have HC : Hid (inI c = (smallB c || (capB c || (digB c || (decide (c.toNat = 46) || (decide (c.toNat = 95) || (decide (c.toNat = 45) || (decide (c.toNat = 47) || (decide (c.toNat = 58) || decide (c.toNat = 64))))))))) ) := by
    rw [Hid, inI, HZ.out 46 46 rfl, HZ.out 95 95 rfl, HZ.out 45 45 rfl, HZ.out 47 47 rfl, HZ.out 58 58 rfl, HZ.out 64 64 rfl]
  clear HZ
  generalize smallB c = b0 at *
  generalize capB c = b1 at *
  generalize digB c = b2 at *
  generalize inI c = r at *
  generalize c.toNat = n at *
  by_cases hz : n = 46 ∨ n = 95 ∨ n = 45 ∨ n = 47 ∨ n = 58 ∨ n = 64
  · have HR : Hid (r = true) := by
      rw [Hid, HC.out]
      rcases hz with rfl | rfl | rfl | rfl | rfl | rfl <;> simp
    clear HC Hsmall Hcap Hdig
    rcases hz with rfl | rfl | rfl | rfl | rfl | rfl
    all_goals go_enter Tryz.func174, Tryz.ntmps174
    all_goals go_wp2
    all_goals go_ret
    all_goals exact ⟨ret_bool HR.out.symm, rfl⟩
  · have HR : Hid (r = (b0 || (b1 || b2))) := by
      rw [Hid, HC.out, decide_eq_false (show ¬ n = 46 by omega), decide_eq_false (show ¬ n = 95 by omega), decide_eq_false (show ¬ n = 45 by omega), decide_eq_false (show ¬ n = 47 by omega), decide_eq_false (show ¬ n = 58 by omega), decide_eq_false (show ¬ n = 64 by omega)]
      simp
    have e1 : ((n : Int) == 46) = false := by rw [beq_eq_false_iff_ne]; omega
    have e2 : ((n : Int) == 95) = false := by rw [beq_eq_false_iff_ne]; omega
    have e3 : ((n : Int) == 45) = false := by rw [beq_eq_false_iff_ne]; omega
    have e4 : ((n : Int) == 47) = false := by rw [beq_eq_false_iff_ne]; omega
    have e5 : ((n : Int) == 58) = false := by rw [beq_eq_false_iff_ne]; omega
    have e6 : ((n : Int) == 64) = false := by rw [beq_eq_false_iff_ne]; omega
    clear HC hz
    cases b0 <;> cases b1 <;> cases b2
    all_goals go_enter Tryz.func174, Tryz.ntmps174
    all_goals go_wp2_with (first | (go_at_call 170; refine (Hsmall.out _).mono ?_; rintro e w' ⟨rfl, rfl⟩) | (go_at_call 173; refine (Hcap.out _).mono ?_; rintro e w' ⟨rfl, rfl⟩) | (go_at_call 153; refine (Hdig.out _).mono ?_; rintro e w' ⟨rfl, rfl⟩))
    all_goals go_ret
    all_goals exact ⟨ret_bool HR.out.symm, rfl⟩
set_option maxRecDepth 100000 in
theorem allI_any (s : ByteArray) (w : World) (hs : s.size ≤ 1000) : Calls Tryz.prog 150 #[.string s, .func (.func 174) #[] #[]] w fun e w' => e = .returned (.bool (s.data.toList.all inI)) ∧ w = w' := by
  have HP := Lib.hid (fun c W => ini_any c W)
  have HSZ : Hid (s.data.toList.length = s.size) := by rw [Hid]; simp
  go_enter Tryz.func150, Tryz.ntmps150
  go_wp2
  go_loopw [8] (fun a8 wr => ∃ (k : Nat), a8 = .int .i64 (k : Int) ∧ k ≤ s.size ∧ w = wr ∧ Hid (∀ c ∈ s.data.toList.take k, inI c = true)) (fun a8 _ => s.size - (intOf a8).toNat)
  case atStart => exact ⟨0, rfl, Nat.zero_le _, rfl, by simp [Hid]⟩
  case round =>
    obtain ⟨k, rfl, hk, rfl, HA⟩ := hrel
    by_cases hlt : k < s.size
    · have HG : Hid (s.data.toList[k]? = some s[k]) := by rw [Hid, List.getElem?_eq_getElem (by rw [HSZ.out]; exact hlt)]; rfl
      have HT := Lib.hid (take_snoc s k hlt)
      have HC := Lib.hid (fun W => HP.out s[k] W)
      cases hp : inI s[k] with
      | false =>
        rw [hp] at HC
        have HR : Hid (s.data.toList.all inI = false) := by
          rw [Hid, Bool.eq_false_iff]
          intro h
          have := List.all_eq_true.1 h s[k] (List.mem_of_getElem? HG.out)
          rw [hp] at this; cases this
        clear hp
        go_wp2_with (go_at_call 174; refine (HC.out _).mono ?_; rintro e w' ⟨rfl, rfl⟩)
        all_goals try (exfalso; omega)
        go_ret
        exact ⟨ret_bool HR.out.symm, rfl⟩
      | true =>
        rw [hp] at HC
        have HN : Hid (∀ c ∈ s.data.toList.take (k + 1), inI c = true) := by
          rw [Hid, HT.out]
          intro c hc
          rcases List.mem_append.1 hc with h | h
          · exact HA.out c h
          · rw [List.mem_singleton.1 h]; exact hp
        clear hp
        go_wp2_with (go_at_call 174; refine (HC.out _).mono ?_; rintro e w' ⟨rfl, rfl⟩)
        all_goals try (exfalso; omega)
        go_roundw
        case rel => exact ⟨k + 1, by simp, by omega, by trivial, HN.out⟩
        case measure => simp [intOf]; omega
    · obtain rfl : k = s.size := by omega
      have HR : Hid (s.data.toList.all inI = true) := by
        rw [Hid, List.all_eq_true]
        intro c hc
        exact HA.out c (by rw [← HSZ.out, List.take_length]; exact hc)
      go_wp2
      all_goals try (exfalso; omega)
      go_ret
      exact ⟨ret_bool HR.out.symm, rfl⟩
set_option maxRecDepth 100000 in
theorem variable_any (s : ByteArray) (w : World) (hs : s.size ≤ maxLen) : Calls Tryz.prog 123 #[.string s] w fun e w' => e = .returned (.bool (varB s.data.toList)) ∧ w = w' := by
  have HSZ : Hid (s.data.toList.length = s.size) := by rw [Hid]; simp
  have HF := Lib.hid (fun W => fits_any s 63 W hs)
  have HL : Hid (varB s.data.toList = ((decide (1 ≤ s.size) && decide (s.size ≤ 63)) && (!digB (s.data.toList.headD 0) && s.data.toList.all inV))) := by
    rw [Hid, varB, HSZ.out]
  cases hf : (decide (1 ≤ s.size) && decide (s.size ≤ 63)) with
  | false =>
    rw [hf] at HF HL
    clear hf hs
    generalize varB s.data.toList = r at *
    go_enter Tryz.func123, Tryz.ntmps123
    go_wp2_with (go_at_call 149; refine (HF.out _).mono ?_; rintro e w' ⟨rfl, rfl⟩)
    go_ret
    exact ⟨ret_bool (by rw [HL.out]; rfl), rfl⟩
  | true =>
    rw [hf] at HF HL
    simp only [Bool.and_eq_true, decide_eq_true_eq] at hf
    obtain ⟨h1, h2⟩ := hf
    have HA := Lib.hid (fun W => allV_any s W (by omega))
    have h0 : 0 < s.size := by omega
    have HH : Hid (s.data.toList.headD 0 = s[0]) := by
      rw [Hid, List.headD_eq_head?_getD, List.head?_eq_getElem?, List.getElem?_eq_getElem (by rw [HSZ.out]; exact h0)]; rfl
    have HL2 : Hid (varB s.data.toList = (!digB (s[0]) && s.data.toList.all inV)) := by
      rw [Hid, HL.out, HH.out]; rfl
    have HD := Lib.hid (fun W => dig_any s[0] W)
    have HS := Lib.hid (fun W => small_any s[0] W)
    clear HL HH hs
    generalize varB s.data.toList = r at *
    generalize s.data.toList.all inV = al at *
    generalize digB s[0] = dg at *
    generalize smallB s[0] = sm at *
    cases al <;> cases dg <;> cases sm
    all_goals go_enter Tryz.func123, Tryz.ntmps123
    all_goals go_wp2_with (first | (go_at_call 149; refine (HF.out _).mono ?_; rintro e w' ⟨rfl, rfl⟩) | (go_at_call 150; refine (HA.out _).mono ?_; rintro e w' ⟨rfl, rfl⟩) | (go_at_call 153; refine (HD.out _).mono ?_; rintro e w' ⟨rfl, rfl⟩) | (go_at_call 170; refine (HS.out _).mono ?_; rintro e w' ⟨rfl, rfl⟩))
    all_goals go_ret
    all_goals refine ⟨?_, rfl⟩
    all_goals refine ret_bool ?_
    all_goals rw [HL2.out]
    all_goals rfl
set_option maxRecDepth 100000 in
theorem image_any (s : ByteArray) (w : World) (hs : s.size ≤ maxLen) : Calls Tryz.prog 156 #[.string s] w fun e w' => e = .returned (.bool (imgB s.data.toList)) ∧ w = w' := by
  have HSZ : Hid (s.data.toList.length = s.size) := by rw [Hid]; simp
  have HF := Lib.hid (fun W => fits_any s 255 W hs)
  have HL : Hid (imgB s.data.toList = ((decide (1 ≤ s.size) && decide (s.size ≤ 255)) && ((smallB (s.data.toList.headD 0) || digB (s.data.toList.headD 0)) && s.data.toList.all inI))) := by
    rw [Hid, imgB, HSZ.out]
  cases hf : (decide (1 ≤ s.size) && decide (s.size ≤ 255)) with
  | false =>
    rw [hf] at HF HL
    clear hf hs
    generalize imgB s.data.toList = r at *
    go_enter Tryz.func156, Tryz.ntmps156
    go_wp2_with (go_at_call 149; refine (HF.out _).mono ?_; rintro e w' ⟨rfl, rfl⟩)
    go_ret
    exact ⟨ret_bool (by rw [HL.out]; rfl), rfl⟩
  | true =>
    rw [hf] at HF HL
    simp only [Bool.and_eq_true, decide_eq_true_eq] at hf
    obtain ⟨h1, h2⟩ := hf
    have HA := Lib.hid (fun W => allI_any s W (by omega))
    have h0 : 0 < s.size := by omega
    have HH : Hid (s.data.toList.headD 0 = s[0]) := by
      rw [Hid, List.headD_eq_head?_getD, List.head?_eq_getElem?, List.getElem?_eq_getElem (by rw [HSZ.out]; exact h0)]; rfl
    have HL2 : Hid (imgB s.data.toList = ((smallB (s[0]) || digB (s[0])) && s.data.toList.all inI)) := by
      rw [Hid, HL.out, HH.out]; rfl
    have HD := Lib.hid (fun W => dig_any s[0] W)
    have HS := Lib.hid (fun W => small_any s[0] W)
    clear HL HH hs
    generalize imgB s.data.toList = r at *
    generalize s.data.toList.all inI = al at *
    generalize digB s[0] = dg at *
    generalize smallB s[0] = sm at *
    cases al <;> cases dg <;> cases sm
    all_goals go_enter Tryz.func156, Tryz.ntmps156
    all_goals go_wp2_with (first | (go_at_call 149; refine (HF.out _).mono ?_; rintro e w' ⟨rfl, rfl⟩) | (go_at_call 150; refine (HA.out _).mono ?_; rintro e w' ⟨rfl, rfl⟩) | (go_at_call 153; refine (HD.out _).mono ?_; rintro e w' ⟨rfl, rfl⟩) | (go_at_call 170; refine (HS.out _).mono ?_; rintro e w' ⟨rfl, rfl⟩))
    all_goals go_ret
    all_goals refine ⟨?_, rfl⟩
    all_goals refine ret_bool ?_
    all_goals rw [HL2.out]
    all_goals rfl
end Go.Proofs.YtldncgelghcjeaaGreatDoor
