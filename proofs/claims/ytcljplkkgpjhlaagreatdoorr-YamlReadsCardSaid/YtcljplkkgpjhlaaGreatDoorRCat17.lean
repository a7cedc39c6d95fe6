/-
  Parts of the proof: VGet VRsame VRsame2 VRget.
-/
import Derived.Test.YtcljplkkgpjhlaaGreatDoorRCat16
import Derived.Test.YtcljplkkgpjhlaaGreatDoorRCat05
import Derived.RegionTactic
import Derived.Deep.RegionHeld3
import Derived.Deep.DrawnRows
set_option maxRecDepth 100000
set_option maxHeartbeats 8000000
namespace Go.Proofs.YtcljplkkgpjhlaaGreatDoorR
namespace v
open Go.ChangeShapes Go.WideShapes Go.ChangeAt Go.RowKit
attribute [local go_sem ↓] Go.wp_at_zero Go.wp_at_succ
def V0 : V := .mk 0 false 0 ⟨#[]⟩ [] []
def M0 : M := .mk 0 false 0 ⟨#[]⟩ none 0 [] none 0 []
theorem m0_at (w : World) : M0.At w := .mk (by decide) (.inl ⟨rfl, rfl⟩) (.inl ⟨rfl, rfl⟩) (by simp) (by simp) (fun _ h => by cases h) (fun _ h => by cases h) (fun _ h => by cases h)
theorem m0_plain : M0.plain = V0 := by simp [M0, V0, M.plain, plainL, plainK]
def V.gets (v : V) (key : ByteArray) : V × Bool := if v.kind = 5 then (match v.keys.find? (fun p => decide (p.1 = key)) with | some p => (p.2, true) | none => (V0, false)) else (V0, false)
theorem gets_no {k : Int} {f : Bool} {n : Int} {s : ByteArray} {l : List V} {ks : List (ByteArray × V)} {key : ByteArray} (h : k ≠ 5) : (V.mk k f n s l ks).gets key = (V0, false) := by
  unfold V.gets; rw [if_neg (by simpa [V.kind] using h)]
theorem find_map (ks : List (ByteArray × M)) (key : ByteArray) : (ks.map fun p => (p.1, p.2.plain)).find? (fun p => decide (p.1 = key)) = (ks.find? (fun p => decide (p.1 = key))).map fun p => (p.1, p.2.plain) := by
  rw [List.find?_map]; rfl
theorem gets_none {f : Bool} {n : Int} {s : ByteArray} {l : List V} {ks : List (ByteArray × M)} {key : ByteArray} (h : ks.find? (fun p => decide (p.1 = key)) = none) : (V.mk 5 f n s l (ks.map fun p => (p.1, p.2.plain))).gets key = (V0, false) := by
  unfold V.gets; simp only [V.kind, V.keys, if_true, find_map, h]; rfl
theorem gets_some {f : Bool} {n : Int} {s : ByteArray} {l : List V} {ks : List (ByteArray × M)} {key : ByteArray} {p : ByteArray × M} (h : ks.find? (fun p => decide (p.1 = key)) = some p) : (V.mk 5 f n s l (ks.map fun p => (p.1, p.2.plain))).gets key = (p.2.plain, true) := by
  unfold V.gets; simp only [V.kind, V.keys, if_true, find_map, h]; rfl
theorem find_at {ks : List (ByteArray × M)} {key : ByteArray} {j : Nat} (hj : j < ks.length) (h0 : (ks.take j).find? (fun p => decide (p.1 = key)) = none) (h : ks[j].1 = key) : ks.find? (fun p => decide (p.1 = key)) = some ks[j] := by
  have e : ks = ks.take j ++ ks[j] :: ks.drop (j + 1) := by rw [List.getElem_cons_drop, List.take_append_drop]
  have h2 : (ks.take j ++ ks[j] :: ks.drop (j + 1)).find? (fun p => decide (p.1 = key)) = some ks[j] := by
    rw [List.find?_append, h0, List.find?_cons]
    simp [h]
  rw [← e] at h2; exact h2
theorem find_on {ks : List (ByteArray × M)} {key : ByteArray} {j : Nat} (hj : j < ks.length) (h0 : (ks.take j).find? (fun p => decide (p.1 = key)) = none) (h : ¬ ks[j].1 = key) : (ks.take (j + 1)).find? (fun p => decide (p.1 = key)) = none := by
  rw [List.take_succ_eq_append_getElem hj, List.find?_append, h0]
  simp [h]
def FoundIs (key : ByteArray) (ks : List (ByteArray × M)) (w : World) (e : Ending) (w' : World) : Prop := ∃ i : Int, e = .returned (.int .i64 i) ∧ ((∃ (j : Nat) (h : j < ks.length), i = j ∧ ks.find? (fun p => decide (p.1 = key)) = some ks[j]) ∨ i = -1 ∧ ks.find? (fun p => decide (p.1 = key)) = none) ∧ Fresh w w'
def GotIs (v : V) (key : ByteArray) (w : World) (e : Ending) (w' : World) : Prop := (∃ (x : M) (ok : Bool), e = .returned (.tuple #[x.val, .bool ok]) ∧ x.At w' ∧ (x.plain, ok) = v.gets key) ∧ Fresh w w'
end v
namespace v
open Go.ChangeShapes Go.WideShapes Go.ChangeAt Go.RowKit
attribute [local go_sem ↓] Go.wp_at_zero Go.wp_at_succ
variable {w : World}
theorem box6at {w0 w : World} (f : Fresh w0 w) {b : Nat} {c0 c1 c2 c3 c4 c5 : Value} {T : TypeId} {z : Nat × Nat} (h : w0.heap[b]? = some (.cells #[c0, c1, c2, c3, c4, c5] T z)) :
    w.cell? ⟨b, 0, none⟩ = some c0 ∧ w.cell? ⟨b, 1, none⟩ = some c1 ∧ w.cell? ⟨b, 2, none⟩ = some c2 ∧ w.cell? ⟨b, 3, none⟩ = some c3 ∧ w.cell? ⟨b, 4, none⟩ = some c4 ∧ w.cell? ⟨b, 5, none⟩ = some c5 := box6' (f.at h)
theorem rsame_plain (k k' : Int) (f f' : Bool) (n n' : Int) (s s' : ByteArray) (la la' : Option Addr) (ln lc ln' lc' : Nat) (ka ka' : Option Addr) (kn kc kn' kc' : Nat) (b : Bool) (w : World) (h4 : k ≠ 4) (h5 : k ≠ 5)
    (hb : b = decide (k = k' ∧ (k ≠ 1 ∨ f = f') ∧ (k ≠ 2 ∨ n = n') ∧ (k ≠ 3 ∨ s = s'))) :
    Calls Tryz.prog 9 #[mval k f n s la ln lc ka kn kc, mval k' f' n' s' la' ln' lc' ka' kn' kc'] w fun e w' => e = .returned (.bool b) ∧ Fresh w w' := by
  have e4 : (k == 4) = false := by simpa using h4
  have e5 : (k == 5) = false := by simpa using h5
  by_cases hk : k = k'
  · subst hk
    by_cases h1 : k = 1
    · subst h1
      have HB : Hid (b = decide (f = f')) := by rw [Hid, hb]; simp
      clear hb h4 h5 e4 e5
      cases f with
      | false =>
        cases f' with
        | false =>
          rw [HB.out]
          go_enter Tryz.func9, Tryz.ntmps9
          go_wp2
          go_ret
          exact ⟨rfl, ((Fresh.refl w).alloc _).alloc _⟩
        | true =>
          rw [HB.out]
          go_enter Tryz.func9, Tryz.ntmps9
          go_wp2
          go_ret
          exact ⟨rfl, ((Fresh.refl w).alloc _).alloc _⟩
      | true =>
        cases f' with
        | false =>
          rw [HB.out]
          go_enter Tryz.func9, Tryz.ntmps9
          go_wp2
          go_ret
          exact ⟨rfl, ((Fresh.refl w).alloc _).alloc _⟩
        | true =>
          rw [HB.out]
          go_enter Tryz.func9, Tryz.ntmps9
          go_wp2
          go_ret
          exact ⟨rfl, ((Fresh.refl w).alloc _).alloc _⟩
    have e1 : (k == 1) = false := by simpa using h1
    by_cases h2 : k = 2
    · subst h2
      by_cases hn : n = n'
      · subst hn
        have HB : Hid (b = true) := by rw [Hid, hb]; simp
        rw [HB.out]
        clear hb h4 h5 e4 e5 h1 e1
        go_enter Tryz.func9, Tryz.ntmps9
        go_wp2
        go_ret
        exact ⟨rfl, ((Fresh.refl w).alloc _).alloc _⟩
      · have HB : Hid (b = false) := by rw [Hid, hb]; simp [hn]
        rw [HB.out]
        have en : (n == n') = false := by simpa using hn
        have en2 : (n != n') = true := by simp [hn]
        clear hb h4 h5 e4 e5 h1 e1 hn
        go_enter Tryz.func9, Tryz.ntmps9
        go_wp2
        go_ret
        exact ⟨rfl, ((Fresh.refl w).alloc _).alloc _⟩
    have e2 : (k == 2) = false := by simpa using h2
    by_cases h3 : k = 3
    · subst h3
      by_cases hn : s = s'
      · subst hn
        have HB : Hid (b = true) := by rw [Hid, hb]; simp
        rw [HB.out]
        clear hb h4 h5 e4 e5 h1 e1 h2 e2
        go_enter Tryz.func9, Tryz.ntmps9
        go_wp2
        go_ret
        exact ⟨rfl, ((Fresh.refl w).alloc _).alloc _⟩
      · have HB : Hid (b = false) := by rw [Hid, hb]; simp [hn]
        rw [HB.out]
        have en : (s.toList == s'.toList) = false := by rw [toList_beq, decide_eq_false hn]
        have en2 : (!(s.toList == s'.toList)) = true := by rw [en]; rfl
        have en3 : (s.toList != s'.toList) = true := by rw [bne, en]; rfl
        clear hb h4 h5 e4 e5 h1 e1 h2 e2 hn
        go_enter Tryz.func9, Tryz.ntmps9
        go_wp2
        go_ret
        exact ⟨rfl, ((Fresh.refl w).alloc _).alloc _⟩
    · have HB : Hid (b = true) := by rw [Hid, hb]; simp [h1, h2, h3]
      rw [HB.out]
      have e3 : (k == 3) = false := by simpa using h3
      clear hb h4 h5 h1 h2 h3
      go_enter Tryz.func9, Tryz.ntmps9
      go_wp2
      go_ret
      exact ⟨rfl, ((Fresh.refl w).alloc _).alloc _⟩
  · have HB : Hid (b = false) := by rw [Hid, hb]; simp [hk]
    rw [HB.out]
    have hkb : (k == k') = false := by simpa using hk
    have hkb2 : (k != k') = true := by simp [hk]
    clear hb hk h4 h5
    go_enter Tryz.func9, Tryz.ntmps9
    go_wp2
    go_ret
    exact ⟨rfl, ((Fresh.refl w).alloc _).alloc _⟩
theorem rsame_parted (k k' : Int) (f f' : Bool) (n n' : Int) (s s' : ByteArray) (la la' : Option Addr) (ln lc ln' lc' : Nat) (ka ka' : Option Addr) (kn kc kn' kc' : Nat) (w : World) (hk : k ≠ k') :
    Calls Tryz.prog 9 #[mval k f n s la ln lc ka kn kc, mval k' f' n' s' la' ln' lc' ka' kn' kc'] w fun e w' => e = .returned (.bool false) ∧ Fresh w w' := by
  have hkb : (k == k') = false := by simpa using hk
  have hkb2 : (k != k') = true := by simp [hk]
  clear hk
  go_enter Tryz.func9, Tryz.ntmps9
  go_wp2
  go_ret
  exact ⟨rfl, ((Fresh.refl w).alloc _).alloc _⟩
theorem sameL_drop (l m : List V) (k : Nat) (hl : k < l.length) (hm : k < m.length) : sameL (l.drop k) (m.drop k) = (l[k].same m[k] && sameL (l.drop (k + 1)) (m.drop (k + 1))) := by
  rw [List.drop_eq_getElem_cons hl, List.drop_eq_getElem_cons hm, sameL]
theorem sameL_parted : ∀ {l m : List V}, l.length ≠ m.length → sameL l m = false
  | [], [], h => absurd rfl h
  | _ :: l, _ :: m, h => by
    rw [sameL, sameL_parted (l := l) (m := m) (by simpa using h), Bool.and_false]
  | [], _ :: _, _ => rfl
  | _ :: _, [], _ => rfl
theorem rsame_list_len (f f' : Bool) (n n' : Int) (s s' : ByteArray) (la la' : Option Addr) (ln lc ln' lc' : Nat) (ka ka' : Option Addr) (kn kc kn' kc' : Nat) (w : World) (hne : ln ≠ ln') :
    Calls Tryz.prog 9 #[mval 4 f n s la ln lc ka kn kc, mval 4 f' n' s' la' ln' lc' ka' kn' kc'] w fun e w' => e = .returned (.bool false) ∧ Fresh w w' := by
  have hkb : ((ln : Int) == (ln' : Int)) = false := beq_eq_false_iff_ne.2 (by omega)
  have hkb2 : (ln == ln') = false := by simpa using hne
  clear hne
  go_enter Tryz.func9, Tryz.ntmps9
  go_wp2
  go_ret
  exact ⟨rfl, ((Fresh.refl w).alloc _).alloc _⟩
theorem rsame_keys_len (f f' : Bool) (n n' : Int) (s s' : ByteArray) (la la' : Option Addr) (ln lc ln' lc' : Nat) (ka ka' : Option Addr) (kn kc kn' kc' : Nat) (w : World) (hne : kn ≠ kn') :
    Calls Tryz.prog 9 #[mval 5 f n s la ln lc ka kn kc, mval 5 f' n' s' la' ln' lc' ka' kn' kc'] w fun e w' => e = .returned (.bool false) ∧ Fresh w w' := by
  have hkb : ((kn : Int) == (kn' : Int)) = false := beq_eq_false_iff_ne.2 (by omega)
  have hkb2 : (kn == kn') = false := by simpa using hne
  clear hne
  go_enter Tryz.func9, Tryz.ntmps9
  go_wp2
  go_ret
  exact ⟨rfl, ((Fresh.refl w).alloc _).alloc _⟩
theorem boxes_two (w : World) (o p : Obj) : ((w.alloc o).alloc p).heap[w.heap.size]? = some o ∧ ((w.alloc o).alloc p).heap[w.heap.size + 1]? = some p :=
  ⟨at_alloc (at_new w o), by have := at_new (w.alloc o) p; rw [World.size_alloc] at this; exact this⟩
theorem rsame_list (f f' : Bool) (n n' : Int) (s s' : ByteArray) (la la' : Option Addr) (lc lc' : Nat) (l l' : List M) (ka ka' : Option Addr) (kn kc kn' kc' : Nat) (w : World) (hl : RowAt w la (mcells l)) (hl' : RowAt w la' (mcells l')) (ll : l.length ≤ 1000000) (hlen : l.length = l'.length)
    (ih : ∀ x ∈ l, ∀ y ∈ l', ∀ W, Fresh w W → Calls Tryz.prog 9 #[x.val, y.val] W fun e w' => e = .returned (.bool (x.plain.same y.plain)) ∧ Fresh W w') :
    Calls Tryz.prog 9 #[mval 4 f n s la l.length lc ka kn kc, mval 4 f' n' s' la' l'.length lc' ka' kn' kc'] w fun e w' => e = .returned (.bool (sameL (l.map M.plain) (l'.map M.plain))) ∧ Fresh w w' := by
  have HIH := Lib.hid ih
  have HR := Lib.hid hl
  have HR' := Lib.hid hl'
  have HLEN := Lib.hid hlen
  have ll' : l'.length ≤ 1000000 := by omega
  have hlb : ((l.length : Int) == (l'.length : Int)) = true := by rw [hlen]; simp
  have hlb2 : (l.length == l'.length) = true := by rw [hlen]; simp
  have hlb3 : ((l.length : Int) != (l'.length : Int)) = false := by rw [hlen]; simp
  clear ih hl hl' hlen
  obtain ⟨hA, hB⟩ := boxes_two w (.cells #[.int .i64 4, .bool f, .int .i64 n, .string s, .slice la l.length lc, .slice ka kn kc] 36) (.cells #[.int .i64 4, .bool f', .int .i64 n', .string s', .slice la' l'.length lc', .slice ka' kn' kc'] 36)
  have HA := Lib.hid hA
  have HB := Lib.hid hB
  clear hA hB
  go_enter Tryz.func9, Tryz.ntmps9
  go_wp2
  have HF0 := Lib.hid (((Fresh.refl w).alloc (.cells #[.int .i64 4, .bool f, .int .i64 n, .string s, .slice la l.length lc, .slice ka kn kc] 36)).alloc (.cells #[.int .i64 4, .bool f', .int .i64 n', .string s', .slice la' l'.length lc', .slice ka' kn' kc'] 36))
  generalize (w.alloc (.cells #[.int .i64 4, .bool f, .int .i64 n, .string s, .slice la l.length lc, .slice ka kn kc] 36)).alloc (.cells #[.int .i64 4, .bool f', .int .i64 n', .string s', .slice la' l'.length lc', .slice ka' kn' kc'] 36) = w0 at *
  generalize hB2 : w.heap.size = B2 at *
  clear hB2 hlb hlb2 hlb3
  go_loopw [5] (fun a wq => ∃ j : Nat, j ≤ l.length ∧ a = .int .i64 j ∧ Hid (sameL (l.map M.plain) (l'.map M.plain) = sameL ((l.map M.plain).drop j) ((l'.map M.plain).drop j)) ∧ Hid (Fresh w0 wq)) (fun a _ => l.length - (intOf a).toNat)
  case atStart => exact ⟨0, Nat.zero_le _, rfl, rfl, Fresh.refl _⟩
  case round =>
    obtain ⟨j, hj, rfl, HE, HW⟩ := hrel
    obtain ⟨b0, b1, b2, b3, b4, b5⟩ := box6at HW.out HA.out
    obtain ⟨c0, c1, c2, c3, c4, c5⟩ := box6at HW.out HB.out
    have HW2 := Lib.hid (HF0.out.trans HW.out)
    by_cases hlt : j < l.length
    · have hltm : j < l'.length := by rw [← HLEN.out]; exact hlt
      obtain ⟨gi, eg⟩ := row_some HR.out j hlt
      obtain ⟨gj, eg'⟩ := row_some HR'.out j hltm
      subst eg eg'
      have hy := mrow_get (HR.out.move HW2.out) j hlt
      have hz := mrow_get (HR'.out.move HW2.out) j hltm
      have hd := sameL_drop (l.map M.plain) (l'.map M.plain) j (by simpa using hlt) (by simpa using hltm)
      rw [List.getElem_map, List.getElem_map] at hd
      have HX := Lib.hid hd
      have i1 : (0 : Int) ≤ (j : Int) := by omega
      have i2 : (j : Int) < (l.length : Int) := by omega
      have i3 : (j : Int) < (l'.length : Int) := by omega
      have HQ : Hid (Calls Tryz.prog 9 #[l[j].val, l'[j].val] wr.drew fun e w' => e = .returned (.bool (l[j].plain.same l'[j].plain)) ∧ Fresh wr.drew w') := HIH.out _ (List.getElem_mem _) _ (List.getElem_mem _) wr.drew HW2.out.drew
      clear hd
      generalize l[j] = y at *
      generalize l'[j] = z at *
      generalize y.plain.same z.plain = b at *
      obtain ⟨yk, yf, yn, ys, yla, ylc, yl, yka, ykc, yks⟩ := y
      obtain ⟨zk, zf, zn, zs, zla, zlc, zl, zka, zkc, zks⟩ := z
      obtain ⟨d0, d1, d2, d3, d4, d5⟩ := hy
      obtain ⟨e0, e1, e2, e3, e4, e5⟩ := hz
      dsimp only [M.val] at HQ
      generalize yl.length = yln at *
      generalize yks.length = ykn at *
      generalize zl.length = zln at *
      generalize zks.length = zkn at *
      have HKP : Hid (∀ w', Fresh wr.drew w' → (w'.cell? ⟨B2, 4, none⟩ = some (.slice (some ⟨gi, 0, none⟩) l.length lc) ∧ w'.cell? ⟨B2 + 1, 4, none⟩ = some (.slice (some ⟨gj, 0, none⟩) l'.length lc') ∧ w'.cell? ⟨gi, j * 6, none⟩ = some (.int .i64 yk) ∧ w'.cell? ⟨gi, j * 6 + 1, none⟩ = some (.bool yf) ∧ w'.cell? ⟨gi, j * 6 + 2, none⟩ = some (.int .i64 yn) ∧ w'.cell? ⟨gi, j * 6 + 3, none⟩ = some (.string ys) ∧ w'.cell? ⟨gi, j * 6 + 4, none⟩ = some (.slice yla yln ylc) ∧ w'.cell? ⟨gi, j * 6 + 5, none⟩ = some (.slice yka ykn ykc) ∧ w'.cell? ⟨gj, j * 6, none⟩ = some (.int .i64 zk) ∧ w'.cell? ⟨gj, j * 6 + 1, none⟩ = some (.bool zf) ∧ w'.cell? ⟨gj, j * 6 + 2, none⟩ = some (.int .i64 zn) ∧ w'.cell? ⟨gj, j * 6 + 3, none⟩ = some (.string zs) ∧ w'.cell? ⟨gj, j * 6 + 4, none⟩ = some (.slice zla zln zlc) ∧ w'.cell? ⟨gj, j * 6 + 5, none⟩ = some (.slice zka zkn zkc))) := fun w' hf => ⟨hf.cell (a := wr.drew) b4, hf.cell (a := wr.drew) c4, hf.cell (a := wr.drew) d0, hf.cell (a := wr.drew) d1, hf.cell (a := wr.drew) d2, hf.cell (a := wr.drew) d3, hf.cell (a := wr.drew) d4, hf.cell (a := wr.drew) d5, hf.cell (a := wr.drew) e0, hf.cell (a := wr.drew) e1, hf.cell (a := wr.drew) e2, hf.cell (a := wr.drew) e3, hf.cell (a := wr.drew) e4, hf.cell (a := wr.drew) e5⟩
      cases b with
      | true =>
        go_wp2_with fail
        go_region_held3 (fun w' => (w'.cell? ⟨B2, 4, none⟩ = some (.slice (some ⟨gi, 0, none⟩) l.length lc) ∧ w'.cell? ⟨B2 + 1, 4, none⟩ = some (.slice (some ⟨gj, 0, none⟩) l'.length lc') ∧ w'.cell? ⟨gi, j * 6, none⟩ = some (.int .i64 yk) ∧ w'.cell? ⟨gi, j * 6 + 1, none⟩ = some (.bool yf) ∧ w'.cell? ⟨gi, j * 6 + 2, none⟩ = some (.int .i64 yn) ∧ w'.cell? ⟨gi, j * 6 + 3, none⟩ = some (.string ys) ∧ w'.cell? ⟨gi, j * 6 + 4, none⟩ = some (.slice yla yln ylc) ∧ w'.cell? ⟨gi, j * 6 + 5, none⟩ = some (.slice yka ykn ykc) ∧ w'.cell? ⟨gj, j * 6, none⟩ = some (.int .i64 zk) ∧ w'.cell? ⟨gj, j * 6 + 1, none⟩ = some (.bool zf) ∧ w'.cell? ⟨gj, j * 6 + 2, none⟩ = some (.int .i64 zn) ∧ w'.cell? ⟨gj, j * 6 + 3, none⟩ = some (.string zs) ∧ w'.cell? ⟨gj, j * 6 + 4, none⟩ = some (.slice zla zln zlc) ∧ w'.cell? ⟨gj, j * 6 + 5, none⟩ = some (.slice zka zkn zkc))) (go_keep)
          (first | (go_at_call 9; (with_reducible refine HQ.out.mono ?_); rintro e W1 ⟨rfl, hf⟩; obtain ⟨k0, k1, k2, k3, k4, k5, k6, k7, k8, k9, k10, k11, k12, k13⟩ := HKP.out _ hf; have HF := Lib.hid (HW.out.drew.trans hf); clear hf))
        clear k0 k1 k2 k3 k4 k5 k6 k7 k8 k9 k10 k11 k12 k13 b0 b1 b2 b3 b4 b5 c0 c1 c2 c3 c4 c5 d0 d1 d2 d3 d4 d5 e0 e1 e2 e3 e4 e5
        go_wp2
        go_roundw
        case rel =>
          have HX2 : Hid (sameL (l.map M.plain) (l'.map M.plain) = sameL ((l.map M.plain).drop (j + 1)) ((l'.map M.plain).drop (j + 1))) := by rw [Hid, HE.out, HX.out, Bool.true_and]
          exact ⟨j + 1, by omega, by go_num, HX2.out, HF.out⟩
        case measure => simp [intOf]; omega
      | false =>
        go_wp2_with fail
        go_region_held3 (fun w' => (w'.cell? ⟨B2, 4, none⟩ = some (.slice (some ⟨gi, 0, none⟩) l.length lc) ∧ w'.cell? ⟨B2 + 1, 4, none⟩ = some (.slice (some ⟨gj, 0, none⟩) l'.length lc') ∧ w'.cell? ⟨gi, j * 6, none⟩ = some (.int .i64 yk) ∧ w'.cell? ⟨gi, j * 6 + 1, none⟩ = some (.bool yf) ∧ w'.cell? ⟨gi, j * 6 + 2, none⟩ = some (.int .i64 yn) ∧ w'.cell? ⟨gi, j * 6 + 3, none⟩ = some (.string ys) ∧ w'.cell? ⟨gi, j * 6 + 4, none⟩ = some (.slice yla yln ylc) ∧ w'.cell? ⟨gi, j * 6 + 5, none⟩ = some (.slice yka ykn ykc) ∧ w'.cell? ⟨gj, j * 6, none⟩ = some (.int .i64 zk) ∧ w'.cell? ⟨gj, j * 6 + 1, none⟩ = some (.bool zf) ∧ w'.cell? ⟨gj, j * 6 + 2, none⟩ = some (.int .i64 zn) ∧ w'.cell? ⟨gj, j * 6 + 3, none⟩ = some (.string zs) ∧ w'.cell? ⟨gj, j * 6 + 4, none⟩ = some (.slice zla zln zlc) ∧ w'.cell? ⟨gj, j * 6 + 5, none⟩ = some (.slice zka zkn zkc))) (go_keep)
          (first | (go_at_call 9; (with_reducible refine HQ.out.mono ?_); rintro e W1 ⟨rfl, hf⟩; obtain ⟨k0, k1, k2, k3, k4, k5, k6, k7, k8, k9, k10, k11, k12, k13⟩ := HKP.out _ hf; have HF := Lib.hid (HW2.out.drew.trans hf); clear hf))
        clear k0 k1 k2 k3 k4 k5 k6 k7 k8 k9 k10 k11 k12 k13 b0 b1 b2 b3 b4 b5 c0 c1 c2 c3 c4 c5 d0 d1 d2 d3 d4 d5 e0 e1 e2 e3 e4 e5
        go_wp2
        go_ret
        exact ⟨ret_bool (by rw [HE.out, HX.out, Bool.false_and]), HF.out⟩
    · obtain rfl : j = l.length := by omega
      have HX : Hid (sameL (l.map M.plain) (l'.map M.plain) = true) := by
        rw [Hid, HE.out, List.drop_eq_nil_of_le (by simp), List.drop_eq_nil_of_le (by simp [HLEN.out])]; rfl
      clear HE
      go_wp2
      go_ret
      exact ⟨ret_bool (by rw [HX.out]), HW2.out⟩
theorem sameK_drop (l l' : List (ByteArray × M)) (j : Nat) (h : j < l.length) (h' : j < l'.length) : sameK (plainK (l.drop j)) (plainK (l'.drop j)) = (decide (l[j].1 = l'[j].1) && (l[j].2.plain.same l'[j].2.plain && sameK (plainK (l.drop (j + 1))) (plainK (l'.drop (j + 1))))) := by
  rw [List.drop_eq_getElem_cons h, List.drop_eq_getElem_cons h']
  generalize l[j] = p
  generalize l'[j] = q
  obtain ⟨s, x⟩ := p
  obtain ⟨t, y⟩ := q
  simp only [plainK, sameK]
theorem rsame_keys (f f' : Bool) (n n' : Int) (s s' : ByteArray) (la la' : Option Addr) (ln ln' lc lc' : Nat) (ka ka' : Option Addr) (kc kc' : Nat) (l l' : List (ByteArray × M)) (w : World) (hl : RowAt w ka (pcells l)) (hl' : RowAt w ka' (pcells l')) (ll : l.length ≤ 1000000) (hlen : l.length = l'.length)
    (ih : ∀ x ∈ l, ∀ y ∈ l', ∀ W, Fresh w W → Calls Tryz.prog 9 #[x.2.val, y.2.val] W fun e w' => e = .returned (.bool (x.2.plain.same y.2.plain)) ∧ Fresh W w') :
    Calls Tryz.prog 9 #[mval 5 f n s la ln lc ka l.length kc, mval 5 f' n' s' la' ln' lc' ka' l'.length kc'] w fun e w' => e = .returned (.bool (sameK (plainK l) (plainK l'))) ∧ Fresh w w' := by
  have HIH := Lib.hid ih
  have HR := Lib.hid hl
  have HR' := Lib.hid hl'
  have HLEN := Lib.hid hlen
  have ll' : l'.length ≤ 1000000 := by omega
  have hlb : ((l.length : Int) == (l'.length : Int)) = true := by rw [hlen]; simp
  have hlb2 : (l.length == l'.length) = true := by rw [hlen]; simp
  have hlb3 : ((l.length : Int) != (l'.length : Int)) = false := by rw [hlen]; simp
  clear ih hl hl' hlen
  obtain ⟨hA, hB⟩ := boxes_two w (.cells #[.int .i64 5, .bool f, .int .i64 n, .string s, .slice la ln lc, .slice ka l.length kc] 36) (.cells #[.int .i64 5, .bool f', .int .i64 n', .string s', .slice la' ln' lc', .slice ka' l'.length kc'] 36)
  have HA := Lib.hid hA
  have HB := Lib.hid hB
  clear hA hB
  go_enter Tryz.func9, Tryz.ntmps9
  go_wp2
  have HF0 := Lib.hid (((Fresh.refl w).alloc (.cells #[.int .i64 5, .bool f, .int .i64 n, .string s, .slice la ln lc, .slice ka l.length kc] 36)).alloc (.cells #[.int .i64 5, .bool f', .int .i64 n', .string s', .slice la' ln' lc', .slice ka' l'.length kc'] 36))
  generalize (w.alloc (.cells #[.int .i64 5, .bool f, .int .i64 n, .string s, .slice la ln lc, .slice ka l.length kc] 36)).alloc (.cells #[.int .i64 5, .bool f', .int .i64 n', .string s', .slice la' ln' lc', .slice ka' l'.length kc'] 36) = w0 at *
  generalize hB2 : w.heap.size = B2 at *
  clear hB2 hlb hlb2 hlb3
  go_loopw [6] (fun a wq => ∃ j : Nat, j ≤ l.length ∧ a = .int .i64 j ∧ Hid (sameK (plainK l) (plainK l') = sameK (plainK (l.drop j)) (plainK (l'.drop j))) ∧ Hid (Fresh w0 wq)) (fun a _ => l.length - (intOf a).toNat)
  case atStart => exact ⟨0, Nat.zero_le _, rfl, rfl, Fresh.refl _⟩
  case round =>
    obtain ⟨j, hj, rfl, HE, HW⟩ := hrel
    obtain ⟨b0, b1, b2, b3, b4, b5⟩ := box6at HW.out HA.out
    obtain ⟨c0, c1, c2, c3, c4, c5⟩ := box6at HW.out HB.out
    have HW2 := Lib.hid (HF0.out.trans HW.out)
    by_cases hlt : j < l.length
    · have hltm : j < l'.length := by rw [← HLEN.out]; exact hlt
      obtain ⟨gi, eg⟩ := prow_some HR.out j hlt
      obtain ⟨gj, eg'⟩ := prow_some HR'.out j hltm
      subst eg eg'
      obtain ⟨nc, hy⟩ := prow_get (HR.out.move HW2.out) j hlt
      obtain ⟨nc', hz⟩ := prow_get (HR'.out.move HW2.out) j hltm
      have hd := sameK_drop l l' j hlt hltm
      have HX := Lib.hid hd
      have i1 : (0 : Int) ≤ (j : Int) := by omega
      have i2 : (j : Int) < (l.length : Int) := by omega
      have i3 : (j : Int) < (l'.length : Int) := by omega
      have HQ : Hid (Calls Tryz.prog 9 #[l[j].2.val, l'[j].2.val] wr.drew fun e w' => e = .returned (.bool (l[j].2.plain.same l'[j].2.plain)) ∧ Fresh wr.drew w') := HIH.out _ (List.getElem_mem _) _ (List.getElem_mem _) wr.drew HW2.out.drew
      clear hd
      generalize l[j] = y2 at *
      generalize l'[j] = z2 at *
      obtain ⟨nm, y⟩ := y2
      obtain ⟨nm', z⟩ := z2
      dsimp only at nc nc' HX HQ hy hz
      generalize y.plain.same z.plain = b at *
      obtain ⟨yk, yf, yn, ys, yla, ylc, yl, yka, ykc, yks⟩ := y
      obtain ⟨zk, zf, zn, zs, zla, zlc, zl, zka, zkc, zks⟩ := z
      obtain ⟨d0, d1, d2, d3, d4, d5⟩ := hy
      obtain ⟨e0, e1, e2, e3, e4, e5⟩ := hz
      dsimp only [M.val] at HQ
      generalize yl.length = yln at *
      generalize yks.length = ykn at *
      generalize zl.length = zln at *
      generalize zks.length = zkn at *
      have HKP : Hid (∀ w', Fresh wr.drew w' → (w'.cell? ⟨B2, 5, none⟩ = some (.slice (some ⟨gi, 0, none⟩) l.length kc) ∧ w'.cell? ⟨B2 + 1, 5, none⟩ = some (.slice (some ⟨gj, 0, none⟩) l'.length kc') ∧ w'.cell? ⟨gi, j * 7, none⟩ = some (.string nm) ∧ w'.cell? ⟨gj, j * 7, none⟩ = some (.string nm') ∧ w'.cell? ⟨gi, j * 7 + 1, none⟩ = some (.int .i64 yk) ∧ w'.cell? ⟨gi, j * 7 + 2, none⟩ = some (.bool yf) ∧ w'.cell? ⟨gi, j * 7 + 3, none⟩ = some (.int .i64 yn) ∧ w'.cell? ⟨gi, j * 7 + 4, none⟩ = some (.string ys) ∧ w'.cell? ⟨gi, j * 7 + 5, none⟩ = some (.slice yla yln ylc) ∧ w'.cell? ⟨gi, j * 7 + 6, none⟩ = some (.slice yka ykn ykc) ∧ w'.cell? ⟨gj, j * 7 + 1, none⟩ = some (.int .i64 zk) ∧ w'.cell? ⟨gj, j * 7 + 2, none⟩ = some (.bool zf) ∧ w'.cell? ⟨gj, j * 7 + 3, none⟩ = some (.int .i64 zn) ∧ w'.cell? ⟨gj, j * 7 + 4, none⟩ = some (.string zs) ∧ w'.cell? ⟨gj, j * 7 + 5, none⟩ = some (.slice zla zln zlc) ∧ w'.cell? ⟨gj, j * 7 + 6, none⟩ = some (.slice zka zkn zkc))) := fun w' hf => ⟨hf.cell (a := wr.drew) b5, hf.cell (a := wr.drew) c5, hf.cell (a := wr.drew) nc, hf.cell (a := wr.drew) nc', hf.cell (a := wr.drew) d0, hf.cell (a := wr.drew) d1, hf.cell (a := wr.drew) d2, hf.cell (a := wr.drew) d3, hf.cell (a := wr.drew) d4, hf.cell (a := wr.drew) d5, hf.cell (a := wr.drew) e0, hf.cell (a := wr.drew) e1, hf.cell (a := wr.drew) e2, hf.cell (a := wr.drew) e3, hf.cell (a := wr.drew) e4, hf.cell (a := wr.drew) e5⟩
      by_cases hnm : nm = nm'
      · have HNM : Hid (decide (nm = nm') = true) := decide_eq_true hnm
        have hnb : (nm.toList == nm'.toList) = true := by rw [toList_beq, decide_eq_true hnm]
        have hnb2 : (nm.toList != nm'.toList) = false := by rw [bne, hnb]; rfl
        clear hnm
        cases b with
        | true =>
          go_wp2_with fail
          go_region_held3 (fun w' => (w'.cell? ⟨B2, 5, none⟩ = some (.slice (some ⟨gi, 0, none⟩) l.length kc) ∧ w'.cell? ⟨B2 + 1, 5, none⟩ = some (.slice (some ⟨gj, 0, none⟩) l'.length kc') ∧ w'.cell? ⟨gi, j * 7, none⟩ = some (.string nm) ∧ w'.cell? ⟨gj, j * 7, none⟩ = some (.string nm') ∧ w'.cell? ⟨gi, j * 7 + 1, none⟩ = some (.int .i64 yk) ∧ w'.cell? ⟨gi, j * 7 + 2, none⟩ = some (.bool yf) ∧ w'.cell? ⟨gi, j * 7 + 3, none⟩ = some (.int .i64 yn) ∧ w'.cell? ⟨gi, j * 7 + 4, none⟩ = some (.string ys) ∧ w'.cell? ⟨gi, j * 7 + 5, none⟩ = some (.slice yla yln ylc) ∧ w'.cell? ⟨gi, j * 7 + 6, none⟩ = some (.slice yka ykn ykc) ∧ w'.cell? ⟨gj, j * 7 + 1, none⟩ = some (.int .i64 zk) ∧ w'.cell? ⟨gj, j * 7 + 2, none⟩ = some (.bool zf) ∧ w'.cell? ⟨gj, j * 7 + 3, none⟩ = some (.int .i64 zn) ∧ w'.cell? ⟨gj, j * 7 + 4, none⟩ = some (.string zs) ∧ w'.cell? ⟨gj, j * 7 + 5, none⟩ = some (.slice zla zln zlc) ∧ w'.cell? ⟨gj, j * 7 + 6, none⟩ = some (.slice zka zkn zkc))) (go_keep)
            (first | (go_at_call 9; (with_reducible refine HQ.out.mono ?_); rintro e W1 ⟨rfl, hf⟩; obtain ⟨k0, k1, k2, k3, k4, k5, k6, k7, k8, k9, k10, k11, k12, k13, k14, k15⟩ := HKP.out _ hf; have HF := Lib.hid (HW.out.drew.trans hf); clear hf))
          clear k0 k1 k2 k3 k4 k5 k6 k7 k8 k9 k10 k11 k12 k13 k14 k15 nc nc' b0 b1 b2 b3 b4 b5 c0 c1 c2 c3 c4 c5 d0 d1 d2 d3 d4 d5 e0 e1 e2 e3 e4 e5
          go_wp2
          go_roundw
          case rel =>
            have HX2 : Hid (sameK (plainK l) (plainK l') = sameK (plainK (l.drop (j + 1))) (plainK (l'.drop (j + 1)))) := by rw [Hid, HE.out, HX.out, HNM.out]; simp
            exact ⟨j + 1, by omega, by go_num, HX2.out, HF.out⟩
          case measure => simp [intOf]; omega
        | false =>
          go_wp2_with fail
          go_region_held3 (fun w' => (w'.cell? ⟨B2, 5, none⟩ = some (.slice (some ⟨gi, 0, none⟩) l.length kc) ∧ w'.cell? ⟨B2 + 1, 5, none⟩ = some (.slice (some ⟨gj, 0, none⟩) l'.length kc') ∧ w'.cell? ⟨gi, j * 7, none⟩ = some (.string nm) ∧ w'.cell? ⟨gj, j * 7, none⟩ = some (.string nm') ∧ w'.cell? ⟨gi, j * 7 + 1, none⟩ = some (.int .i64 yk) ∧ w'.cell? ⟨gi, j * 7 + 2, none⟩ = some (.bool yf) ∧ w'.cell? ⟨gi, j * 7 + 3, none⟩ = some (.int .i64 yn) ∧ w'.cell? ⟨gi, j * 7 + 4, none⟩ = some (.string ys) ∧ w'.cell? ⟨gi, j * 7 + 5, none⟩ = some (.slice yla yln ylc) ∧ w'.cell? ⟨gi, j * 7 + 6, none⟩ = some (.slice yka ykn ykc) ∧ w'.cell? ⟨gj, j * 7 + 1, none⟩ = some (.int .i64 zk) ∧ w'.cell? ⟨gj, j * 7 + 2, none⟩ = some (.bool zf) ∧ w'.cell? ⟨gj, j * 7 + 3, none⟩ = some (.int .i64 zn) ∧ w'.cell? ⟨gj, j * 7 + 4, none⟩ = some (.string zs) ∧ w'.cell? ⟨gj, j * 7 + 5, none⟩ = some (.slice zla zln zlc) ∧ w'.cell? ⟨gj, j * 7 + 6, none⟩ = some (.slice zka zkn zkc))) (go_keep)
            (first | (go_at_call 9; (with_reducible refine HQ.out.mono ?_); rintro e W1 ⟨rfl, hf⟩; obtain ⟨k0, k1, k2, k3, k4, k5, k6, k7, k8, k9, k10, k11, k12, k13, k14, k15⟩ := HKP.out _ hf; have HF := Lib.hid (HW2.out.drew.trans hf); clear hf))
          clear k0 k1 k2 k3 k4 k5 k6 k7 k8 k9 k10 k11 k12 k13 k14 k15 nc nc' b0 b1 b2 b3 b4 b5 c0 c1 c2 c3 c4 c5 d0 d1 d2 d3 d4 d5 e0 e1 e2 e3 e4 e5
          go_wp2
          go_ret
          exact ⟨ret_bool (by rw [HE.out, HX.out, HNM.out]; simp), HF.out⟩
      · have HNM : Hid (decide (nm = nm') = false) := decide_eq_false hnm
        have hnb : (nm.toList == nm'.toList) = false := by rw [toList_beq, decide_eq_false hnm]
        have hnb2 : (nm.toList != nm'.toList) = true := by rw [bne, hnb]; rfl
        have HF := Lib.hid HW2.out
        clear hnm HQ HKP
        go_wp2_with fail
        go_quiet (fail)
        go_wp2
        go_ret
        exact ⟨ret_bool (by rw [HE.out, HX.out, HNM.out]; simp), HF.out.drewN _⟩
    · obtain rfl : j = l.length := by omega
      have HX : Hid (sameK (plainK l) (plainK l') = true) := by
        rw [Hid, HE.out, List.drop_length, HLEN.out, List.drop_length]; rfl
      clear HE
      go_wp2
      go_ret
      exact ⟨ret_bool (by rw [HX.out]), HW2.out⟩
theorem rsame_all (N : Nat) : ∀ (m m' : M) (w : World), m.plain.size ≤ N → m.At w → m'.At w → Calls Tryz.prog 9 #[m.val, m'.val] w fun e w' => e = .returned (.bool (m.plain.same m'.plain)) ∧ Fresh w w' := by
  induction N with
  | zero => intro m m' w hN; have := m.plain.size_pos; omega
  | succ N ih =>
    intro m m' w hN hat hat'
    have hsz := size_inside m.plain
    rw [plain_inside] at hsz
    have hin : ∀ x ∈ m.inside, ∀ y : M, y.At w → ∀ W, Fresh w W → Calls Tryz.prog 9 #[x.val, y.val] W fun e w' => e = .returned (.bool (x.plain.same y.plain)) ∧ Fresh W w' := fun x hx y hy W hf => by
      have := size_mem (List.mem_map_of_mem (f := M.plain) hx)
      exact ih x y W (by omega) ((hat.inside x hx).move hf) (hy.move hf)
    obtain ⟨k, f, n, s, la, lc, l, ka, kc, ks⟩ := m
    obtain ⟨k', f', n', s', la', lc', l', ka', kc', ks'⟩ := m'
    obtain ⟨_, hl, hk, ll, lk, _, ml, mk⟩ := hat.parts
    obtain ⟨_, hl', hk', ll', lk', _, ml', mk'⟩ := hat'.parts
    dsimp only [M.plain]
    by_cases e : k = k'
    · subst e
      by_cases h4 : k = 4
      · subst h4
        have hs : (V.mk 4 f n s (plainL l) (plainK ks)).same (V.mk 4 f' n' s' (plainL l') (plainK ks')) = sameL (l.map M.plain) (l'.map M.plain) := by
          simp [V.same, plainL_eq]
        rw [hs]
        by_cases hlen : l.length = l'.length
        · exact rsame_list f f' n n' s s' la la' lc lc' l l' ka ka' ks.length kc ks'.length kc' w hl hl' ll hlen (fun x hx y hy => hin x hx y (ml' y hy))
        · rw [sameL_parted (by simpa using hlen)]
          exact rsame_list_len f f' n n' s s' la la' l.length lc l'.length lc' ka ka' ks.length kc ks'.length kc' w hlen
      by_cases h5 : k = 5
      · subst h5
        have hs : (V.mk 5 f n s (plainL l) (plainK ks)).same (V.mk 5 f' n' s' (plainL l') (plainK ks')) = sameK (plainK ks) (plainK ks') := by
          simp [V.same]
        rw [hs]
        by_cases hlen : ks.length = ks'.length
        · exact rsame_keys f f' n n' s s' la la' l.length l'.length lc lc' ka ka' kc kc' ks ks' w hk hk' lk hlen (fun x hx y hy => hin x.2 (List.mem_map_of_mem (f := (·.2)) hx) y.2 (mk' y hy))
        · have : sameK (plainK ks) (plainK ks') = false := by
            rw [sameK_eq, sameL_parted (by simpa [plainK_eq] using hlen), Bool.and_false]
          rw [this]
          exact rsame_keys_len f f' n n' s s' la la' l.length lc l'.length lc' ka ka' ks.length kc ks'.length kc' w hlen
      · exact rsame_plain k k f f' n n' s s' la la' l.length lc l'.length lc' ka ka' ks.length kc ks'.length kc' _ w h4 h5 (by simp [V.same, h4, h5])
    · have hs : (V.mk k f n s (plainL l) (plainK ks)).same (V.mk k' f' n' s' (plainL l') (plainK ks')) = false := by
        simp [V.same, e]
      rw [hs]
      exact rsame_parted k k' f f' n n' s s' la la' l.length lc l'.length lc' ka ka' ks.length kc ks'.length kc' w e
theorem rsame_any (m m' : M) (w : World) (h : m.At w) (h' : m'.At w) : Calls Tryz.prog 9 #[m.val, m'.val] w fun e w' => e = .returned (.bool (m.plain.same m'.plain)) ∧ Fresh w w' :=
  rsame_all m.plain.size m m' w (Nat.le_refl _) h h'
end v
namespace v
open Go.ChangeShapes Go.WideShapes Go.ChangeAt Go.RowKit
attribute [local go_sem ↓] Go.wp_at_zero Go.wp_at_succ
theorem rget_any (m : M) (key : ByteArray) (w : World) (hat : m.At w) : Calls Tryz.prog 62 #[m.val, .string key] w (GotIs m.plain key w) := by
  obtain ⟨k, f, n, s, la, lc, l, ka, kc, ks⟩ := m
  have HAT := Lib.hid hat.parts
  clear hat
  dsimp only [M.val, M.plain]
  rw [plainL_eq, plainK_eq]
  generalize l.length = ln at *
  by_cases hk : k = 5
  · subst hk
    have HKL : Hid (ks.length ≤ 1000000) := HAT.out.2.2.2.2.1
    generalize hkn : ks.length = kn at HKL
    have HKN := Lib.hid hkn
    clear hkn
    go_enter Tryz.func62, Tryz.ntmps62
    go_wp2
    have HB1 : Hid (((w.alloc (.cells #[.int .i64 5, .bool f, .int .i64 n, .string s, .slice la ln lc, .slice ka kn kc] 36)).alloc (.cells #[.int .i64 0, .bool false, .int .i64 0, .string ⟨#[]⟩, .slice none 0 0, .slice none 0 0] 36)).heap[w.heap.size]? = some (.cells #[.int .i64 5, .bool f, .int .i64 n, .string s, .slice la ln lc, .slice ka kn kc] 36 (0, 0))) := (boxes_two w _ _).1
    have HB2 : Hid (((w.alloc (.cells #[.int .i64 5, .bool f, .int .i64 n, .string s, .slice la ln lc, .slice ka kn kc] 36)).alloc (.cells #[.int .i64 0, .bool false, .int .i64 0, .string ⟨#[]⟩, .slice none 0 0, .slice none 0 0] 36)).heap[w.heap.size + 1]? = some (.cells #[.int .i64 0, .bool false, .int .i64 0, .string ⟨#[]⟩, .slice none 0 0, .slice none 0 0] 36 (0, 0))) := (boxes_two w _ _).2
    have HWW : Hid (Fresh w ((w.alloc (.cells #[.int .i64 5, .bool f, .int .i64 n, .string s, .slice la ln lc, .slice ka kn kc] 36)).alloc (.cells #[.int .i64 0, .bool false, .int .i64 0, .string ⟨#[]⟩, .slice none 0 0, .slice none 0 0] 36))) := ((Fresh.refl w).alloc _).alloc _
    generalize (w.alloc (.cells #[.int .i64 5, .bool f, .int .i64 n, .string s, .slice la ln lc, .slice ka kn kc] 36)).alloc (.cells #[.int .i64 0, .bool false, .int .i64 0, .string ⟨#[]⟩, .slice none 0 0, .slice none 0 0] 36) = wo at *
    have p5 := cell_of_at HB1.out (i := 5) rfl
    have HLE := HKL.out
    go_loopw [6] (fun a6 wr => ∃ j : Nat, j ≤ kn ∧ a6 = .int .i64 j ∧ Hid ((ks.take j).find? (fun p => decide (p.1 = key)) = none) ∧ wr = wo) (fun a6 _ => kn - (intOf a6).toNat)
    case atStart => exact ⟨0, Nat.zero_le _, rfl, rfl, rfl⟩
    case round =>
      obtain ⟨j, hj, rfl, HA, rfl⟩ := hrel
      obtain ⟨c0, c1, c2, c3, c4, c5⟩ := box6' HB2.out
      obtain ⟨z0, z1, z2, z3, z4, z5⟩ : wr.frozen? ⟨w.heap.size + 1, 0, none⟩ = false ∧ wr.frozen? ⟨w.heap.size + 1, 1, none⟩ = false ∧ wr.frozen? ⟨w.heap.size + 1, 2, none⟩ = false ∧ wr.frozen? ⟨w.heap.size + 1, 3, none⟩ = false ∧ wr.frozen? ⟨w.heap.size + 1, 4, none⟩ = false ∧ wr.frozen? ⟨w.heap.size + 1, 5, none⟩ = false := by simp [World.frozen?, HB2.out]
      by_cases hlq : j < kn
      · have hlt : j < ks.length := by rw [HKN.out]; exact hlq
        obtain ⟨g, eg⟩ := prow_some HAT.out.2.2.1 j hlt
        subst eg
        have hy := prow_get (HAT.out.2.2.1.move HWW.out) j hlt
        have HB : Hid (ks[j].1 = key → ks.find? (fun p => decide (p.1 = key)) = some ks[j]) := find_at hlt HA.out
        have HC : Hid (¬ ks[j].1 = key → (ks.take (j + 1)).find? (fun p => decide (p.1 = key)) = none) := find_on hlt HA.out
        have HYA : Hid (ks[j].2.At w) := HAT.out.2.2.2.2.2.2.2 _ (List.getElem_mem _)
        have i1 : (j : Int) < (kn : Int) := by omega
        have i3 : (0 : Int) ≤ (j : Int) := by omega
        generalize ks[j] = p at *
        obtain ⟨s', y⟩ := p
        obtain ⟨yk, yf, yn, ys, yla, ylc, yl, yka, ykc, yks⟩ := y
        dsimp only at hy HB HC HYA
        obtain ⟨dk, d0, d1, d2, d3, d4, d5⟩ := hy
        have HYV : Hid ((M.mk yk yf yn ys yla ylc yl yka ykc yks).val = .agg #[.int .i64 yk, .bool yf, .int .i64 yn, .string ys, .slice yla yl.length ylc, .slice yka yks.length ykc]) := rfl
        generalize yl.length = yln at *
        generalize yks.length = ykn at *
        by_cases hs : s' = key
        · have HE : Hid (ks.find? (fun p => decide (p.1 = key)) = some (s', M.mk yk yf yn ys yla ylc yl yka ykc yks)) := HB.out hs
          have hs2 : (s'.toList == key.toList) = true := by rw [toList_beq, decide_eq_true hs]
          clear hs
          go_wp2
          refine bodyPost_ret (v := .tuple #[.agg #[.int .i64 yk, .bool yf, .int .i64 yn, .string ys, .slice yla yln ylc, .slice yka ykn ykc], .bool true]) (by simp [results, Tryz.results62, go_sem, *]) rfl ⟨⟨M.mk yk yf yn ys yla ylc yl yka ykc yks, true, by rw [HYV.out], ?_, (gets_some HE.out).symm⟩, ?_⟩
          · refine HYA.out.move ?_
            exact Fresh.setCells (by omega) [.int .i64 yk, .bool yf, .int .i64 yn, .string ys, .slice yla yln ylc, .slice yka ykn ykc] 0 HWW.out
          · exact Fresh.setCells (by omega) [.int .i64 yk, .bool yf, .int .i64 yn, .string ys, .slice yla yln ylc, .slice yka ykn ykc] 0 HWW.out
        · have HE := HC.out hs
          have HE2 := Lib.hid HE
          have hs2 : (s'.toList == key.toList) = false := by rw [toList_beq, decide_eq_false hs]
          clear HE hs c0 c1 c2 c3 c4 c5 z0 z1 z2 z3 z4 z5
          go_wp2
          go_roundw
          case rel => exact ⟨j + 1, by omega, by go_num, HE2.out, by trivial⟩
          case measure => simp [intOf]; omega
      · obtain rfl : j = kn := by omega
        have HE : Hid (ks.find? (fun p => decide (p.1 = key)) = none) := by
          have := HA.out
          rw [List.take_of_length_le (by rw [HKN.out]; exact Nat.le_refl _)] at this
          exact this
        go_wp2
        refine bodyPost_ret (v := .tuple #[M0.val, .bool false]) (by simp [results, Tryz.results62, go_sem, M0, M.val, *]) rfl ⟨⟨M0, false, rfl, m0_at _, by rw [m0_plain]; exact (gets_none HE.out).symm⟩, ?_⟩
        exact Fresh.setCells (by omega) [.int .i64 0, .bool false, .int .i64 0, .string ⟨#[]⟩, .slice none 0 0, .slice none 0 0] 0 HWW.out
  · have e5 : (k == 5) = false := by simpa using hk
    have HK := Lib.hid hk
    clear hk
    generalize ks.length = kn at *
    go_enter Tryz.func62, Tryz.ntmps62
    go_wp2
    refine bodyPost_ret (v := .tuple #[M0.val, .bool false]) (by simp [results, Tryz.results62, go_sem, M0, M.val, *]) rfl ⟨⟨M0, false, rfl, m0_at _, by rw [m0_plain]; exact (gets_no HK.out).symm⟩, ?_⟩
    exact ((Fresh.refl w).alloc _).alloc _
end v
end Go.Proofs.YtcljplkkgpjhlaaGreatDoorR
