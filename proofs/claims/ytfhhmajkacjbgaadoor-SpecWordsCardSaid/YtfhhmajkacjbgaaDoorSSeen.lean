/-
  A map of texts that were met.
-/
import Derived.Test.YtfhhmajkacjbgaaDoorSBase
import Derived.Maps.Own
import Derived.Maps.OwnOps
import Derived.Maps.OwnSet
namespace Go.Proofs.YtfhhmajkacjbgaaDoor
open Go.ChangeShapes Go.WideShapes Go.ChangeAt Go.RowKit

def key (s : ByteArray) : Lit := .string s.data.toList
theorem key_inj {a b : ByteArray} (h : key a = key b) : a = b := by
  unfold key at h
  injection h with h
  exact ByteArray.ext (Array.ext' h)
theorem key_of (s : ByteArray) (hs : s.size ≤ 1000000) : keyOf Tryd.prog 9 (.string s) = some (key s) := Go.WideMaps.keyOf_string_mk Tryd.underlying9 (by unfold maxLen; omega)
theorem law9 : Maps.Keyed Tryd.prog 9 := Maps.string_keyed Tryd.underlying9
theorem zero4 (w : World) : (zeroValue 4).run Tryd.prog w = .ok (.bool false) w := by kernel_rfl
def boolR : Value → Option (DataW Unit × List MemPlace)
  | .bool x => some (.lit (.bool x), [])
  | _ => none
theorem boolR_inv {v : Value} {y : DataW Unit × List MemPlace} (h : boolR v = some y) : ∃ x, v = .bool x ∧ y = (.lit (.bool x), []) := by
  unfold boolR at h
  split at h
  · exact ⟨_, rfl, by cases h; rfl⟩
  · cases h
/-- Block b is a map of at most n keys: these were met. -/
def seenIs (w : World) (b n : Nat) (L : List ByteArray) : Prop := ∃ D : DataW Unit, w.ownsMap Tryd.prog 9 boolR b n D ∧ ∀ s : ByteArray, D.atKey (key s) (.lit (.bool false)) = .lit (.bool (memT s L))
theorem seen_made (w : World) : seenIs (w.alloc (.map #[] 0)) w.heap.size 0 [] := ⟨_, World.ownsMap_made w _ _ _, fun _ => rfl⟩
theorem seenIs.look {w : World} {b n : Nat} {L : List ByteArray} (h : seenIs w b n L) (s : ByteArray) (hs : s.size ≤ 1000000) : (Instr.lookup 68 (.map (some b)) (.string s) false).run Tryd.prog w = .ok (.bool (memT s L)) w := by
  obtain ⟨D, h1, h2⟩ := h
  obtain ⟨v, ps, hr, hv⟩ := h1.lookup law9 Tryd.underlying68 (zero4 w) (zd := .lit (.bool false)) (zp := []) rfl (key_of s hs)
  obtain ⟨x, rfl, e⟩ := boolR_inv hv
  rw [h2 s] at e
  simp only [Prod.mk.injEq, DataW.lit.injEq, Lit.bool.injEq] at e
  rw [e.1]; exact hr
theorem seenIs.move {w w' : World} {b n : Nat} {L : List ByteArray} (h : seenIs w b n L) (hb : w'.heap[b]? = w.heap[b]?) : seenIs w' b n L := by
  obtain ⟨D, ⟨es, clock, h1, r⟩, h2⟩ := h
  exact ⟨D, ⟨es, clock, hb.trans h1, r⟩, h2⟩
theorem seenIs.lt {w : World} {b n : Nat} {L : List ByteArray} (h : seenIs w b n L) : b < w.heap.size := by
  obtain ⟨D, h1, _⟩ := h; exact h1.lt
theorem seenIs.fresh {w w' : World} {b n : Nat} {L : List ByteArray} (h : seenIs w b n L) (f : Fresh w w') : seenIs w' b n L := h.move (f.block b h.lt)
theorem seen_put {D : DataW Unit} {L : List ByteArray} (hD : Maps.IsMap D) (h : ∀ s : ByteArray, D.atKey (key s) (.lit (.bool false)) = .lit (.bool (memT s L))) (nm : ByteArray) (hn : nm.size ≤ 1000000) (s : ByteArray) :
    (D.put (key nm) (.lit (.bool true))).atKey (key s) (.lit (.bool false)) = .lit (.bool (memT s (L ++ [nm]))) := by
  have hk : WideAt.IsKeyLit (key nm) := law9.key (v := .string nm) (l := key nm) (key_of nm hn)
  by_cases hs : s = nm
  · subst hs
    have e : memT s (L ++ [s]) = true := by simp [memT]
    rw [Maps.atKey_put_same hD hk, e]
  · rw [Maps.atKey_put_other (fun e => hs (key_inj e)), h s]
    have e : memT s (L ++ [nm]) = memT s L := by simp [memT, Ne.symm hs]
    rw [e]
/-- What is wrong with a name, of which is told whether it may be, behind these. -/
def nameE (may : Bool) (s : ByteArray) (L : List ByteArray) : Int := if may = true then (if memT s L = true then 8 else 0) else 13
set_option maxRecDepth 100000 in
theorem nameFault_any (s : ByteArray) (may : Bool) (b n : Nat) (L : List ByteArray) (w : World) (hs : s.size ≤ 1000000) (hn : n ≤ 1000000) (h : seenIs w b n L) :
    Calls Tryd.prog 50 #[.string s, .bool may, .map (some b)] w fun e w' => e = .returned (.int .i64 (nameE may s L)) ∧ (nameE may s L = 0 → seenIs w' b (n + 1) (L ++ [s])) ∧ w.grownBy w' (some b) := by
  have hg0 : w.grownBy w (some b) := ⟨rfl, rfl, rfl, Nat.le_refl _, fun _ _ _ => rfl⟩
  cases may with
  | false =>
    have HE : Hid (nameE false s L = 13) := rfl
    have HG := Lib.hid hg0
    clear h hg0
    generalize nameE false s L = E at *
    go_enter Tryd.func50, Tryd.ntmps50
    go_wp2
    go_ret
    exact ⟨ret_int HE.out.symm, fun e => absurd (HE.out.symm.trans e) (by decide), HG.out⟩
  | true =>
    have hlook := h.look s hs
    cases hm : memT s L with
    | true =>
      have HE : Hid (nameE true s L = 8) := by rw [Hid, nameE, if_pos rfl, if_pos hm]
      have HG := Lib.hid hg0
      rw [hm] at hlook
      clear h hg0 hm
      generalize nameE true s L = E at *
      go_enter Tryd.func50, Tryd.ntmps50
      go_wp2
      go_ret
      exact ⟨ret_int HE.out.symm, fun e => absurd (HE.out.symm.trans e) (by decide), HG.out⟩
    | false =>
      have HE : Hid (nameE true s L = 0) := by rw [Hid, nameE, if_pos rfl, if_neg (by rw [hm]; decide)]
      rw [hm] at hlook
      obtain ⟨D, hown, hD⟩ := h
      have HO := Lib.hid hown
      have HD := Lib.hid hD
      clear hm hown hD hg0
      generalize nameE true s L = E at *
      go_enter Tryd.func50, Tryd.ntmps50
      go_wp2_with (at_mapUpdate; refine wpList_mapUpdate_own _ rfl _ _ _ 68 rfl 9 4 law9 Tryd.underlying68 boolR b n D rfl HO.out (by unfold maxLen; omega) _ _ _ rfl rfl (key_of s hs) _ [] rfl ?_; intro w5 ho5 hg5; have HO5 := Lib.hid ho5; have HG5 := Lib.hid hg5; clear ho5 hg5)
      go_ret
      exact ⟨ret_int HE.out.symm, fun _ => ⟨_, HO5.out, fun t => seen_put HO.out.isMap HD.out s hs t⟩, HG5.out⟩
end Go.Proofs.YtfhhmajkacjbgaaDoor
