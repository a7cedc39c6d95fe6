/-
  The document's Same, of lists and of keys.
-/
import Derived.Test.YtonakfkiidhebaaDoorRsame
namespace Go.Proofs.YtonakfkiidhebaaDoor
open Go.ChangeShapes Go.WideShapes Go.ChangeAt Go.RowKit
attribute [local go_sem ↓] Go.wp_at_zero Go.wp_at_succ
variable {w : World}

theorem boxes_two (w : World) (o p : Obj) : ((w.alloc o).alloc p).heap[w.heap.size]? = some o ∧ ((w.alloc o).alloc p).heap[w.heap.size + 1]? = some p :=
  ⟨at_alloc (at_new w o), by have := at_new (w.alloc o) p; rw [World.size_alloc] at this; exact this⟩
set_option maxRecDepth 100000 in
set_option maxHeartbeats 2000000 in
theorem rsame_list (f f' : Bool) (n n' : Int) (s s' : ByteArray) (la la' : Option Addr) (lc lc' : Nat) (l l' : List M) (ka ka' : Option Addr) (kn kc kn' kc' : Nat) (w : World) (hl : RowAt w la (mcells l)) (hl' : RowAt w la' (mcells l')) (ll : l.length ≤ 1000000) (hlen : l.length = l'.length)
    (ih : ∀ x ∈ l, ∀ y ∈ l', ∀ W, Fresh w W → Calls Tryd.prog 14 #[x.val, y.val] W fun e w' => e = .returned (.bool (x.plain.same y.plain)) ∧ Fresh W w') :
    Calls Tryd.prog 14 #[mval 4 f n s la l.length lc ka kn kc, mval 4 f' n' s' la' l'.length lc' ka' kn' kc'] w fun e w' => e = .returned (.bool (sameL (l.map M.plain) (l'.map M.plain))) ∧ Fresh w w' := by
  have HIH := Lib.hid ih
  have HR := Lib.hid hl
  have HR' := Lib.hid hl'
  have HLEN := Lib.hid hlen
  have ll' : l'.length ≤ 1000000 := by omega
  have hlb : ((l.length : Int) == (l'.length : Int)) = true := by rw [hlen]; simp
  have hlb2 : (l.length == l'.length) = true := by rw [hlen]; simp
  have hlb3 : ((l.length : Int) != (l'.length : Int)) = false := by rw [hlen]; simp
  clear ih hl hl' hlen
  obtain ⟨hA, hB⟩ := boxes_two w (.cells #[.int .i64 4, .bool f, .int .i64 n, .string s, .slice la l.length lc, .slice ka kn kc] 33) (.cells #[.int .i64 4, .bool f', .int .i64 n', .string s', .slice la' l'.length lc', .slice ka' kn' kc'] 33)
  have HA := Lib.hid hA
  have HB := Lib.hid hB
  clear hA hB
  go_enter Tryd.func14, Tryd.ntmps14
  go_wp2
  have HF0 := Lib.hid (((Fresh.refl w).alloc (.cells #[.int .i64 4, .bool f, .int .i64 n, .string s, .slice la l.length lc, .slice ka kn kc] 33)).alloc (.cells #[.int .i64 4, .bool f', .int .i64 n', .string s', .slice la' l'.length lc', .slice ka' kn' kc'] 33))
  generalize (w.alloc (.cells #[.int .i64 4, .bool f, .int .i64 n, .string s, .slice la l.length lc, .slice ka kn kc] 33)).alloc (.cells #[.int .i64 4, .bool f', .int .i64 n', .string s', .slice la' l'.length lc', .slice ka' kn' kc'] 33) = w0 at *
  generalize hB2 : w.heap.size = B2 at *
  clear hB2 hlb hlb2 hlb3
  go_loopw [5] (fun a wq => ∃ j : Nat, j ≤ l.length ∧ a = .int .i64 j ∧ Hid (sameL (l.map M.plain) (l'.map M.plain) = sameL ((l.map M.plain).drop j) ((l'.map M.plain).drop j)) ∧ Hid (Fresh w0 wq)) (fun a _ => l.length - (intOf a).toNat)
  case atStart => exact ⟨0, Nat.zero_le _, rfl, rfl, Fresh.refl _⟩
  case round =>
    obtain ⟨j, hj, rfl, HE, HW⟩ := hrel
    obtain ⟨b0, b1, b2, b3, b4, b5⟩ := box6at HW.out HA.out
    obtain ⟨c0, c1, c2, c3, c4, c5⟩ := box6at HW.out HB.out
    have HW2 := Lib.hid (HF0.out.trans HW.out)
    by_cases hlt : j < l.length
    · have hltm : j < l'.length := by rw [← HLEN.out]; exact hlt
      obtain ⟨gi, eg⟩ := row_some HR.out j hlt
      obtain ⟨gj, eg'⟩ := row_some HR'.out j hltm
      subst eg eg'
      have hy := mrow_get (HR.out.move HW2.out) j hlt
      have hz := mrow_get (HR'.out.move HW2.out) j hltm
      have hd := sameL_drop (l.map M.plain) (l'.map M.plain) j (by simpa using hlt) (by simpa using hltm)
      rw [List.getElem_map, List.getElem_map] at hd
      have HX := Lib.hid hd
      have i1 : (0 : Int) ≤ (j : Int) := by omega
      have i2 : (j : Int) < (l.length : Int) := by omega
      have i3 : (j : Int) < (l'.length : Int) := by omega
      have HQ : Hid (Calls Tryd.prog 14 #[l[j].val, l'[j].val] wr.drew fun e w' => e = .returned (.bool (l[j].plain.same l'[j].plain)) ∧ Fresh wr.drew w') := HIH.out _ (List.getElem_mem _) _ (List.getElem_mem _) wr.drew HW2.out.drew
      clear hd
      generalize l[j] = y at *
      generalize l'[j] = z at *
      generalize y.plain.same z.plain = b at *
      obtain ⟨yk, yf, yn, ys, yla, ylc, yl, yka, ykc, yks⟩ := y
      obtain ⟨zk, zf, zn, zs, zla, zlc, zl, zka, zkc, zks⟩ := z
      obtain ⟨d0, d1, d2, d3, d4, d5⟩ := hy
      obtain ⟨e0, e1, e2, e3, e4, e5⟩ := hz
      dsimp only [M.val] at HQ
      generalize yl.length = yln at *
      generalize yks.length = ykn at *
      generalize zl.length = zln at *
      generalize zks.length = zkn at *
      have HKP : Hid (∀ w', Fresh wr.drew w' → (w'.cell? ⟨B2, 4, none⟩ = some (.slice (some ⟨gi, 0, none⟩) l.length lc) ∧ w'.cell? ⟨B2 + 1, 4, none⟩ = some (.slice (some ⟨gj, 0, none⟩) l'.length lc') ∧ w'.cell? ⟨gi, j * 6, none⟩ = some (.int .i64 yk) ∧ w'.cell? ⟨gi, j * 6 + 1, none⟩ = some (.bool yf) ∧ w'.cell? ⟨gi, j * 6 + 2, none⟩ = some (.int .i64 yn) ∧ w'.cell? ⟨gi, j * 6 + 3, none⟩ = some (.string ys) ∧ w'.cell? ⟨gi, j * 6 + 4, none⟩ = some (.slice yla yln ylc) ∧ w'.cell? ⟨gi, j * 6 + 5, none⟩ = some (.slice yka ykn ykc) ∧ w'.cell? ⟨gj, j * 6, none⟩ = some (.int .i64 zk) ∧ w'.cell? ⟨gj, j * 6 + 1, none⟩ = some (.bool zf) ∧ w'.cell? ⟨gj, j * 6 + 2, none⟩ = some (.int .i64 zn) ∧ w'.cell? ⟨gj, j * 6 + 3, none⟩ = some (.string zs) ∧ w'.cell? ⟨gj, j * 6 + 4, none⟩ = some (.slice zla zln zlc) ∧ w'.cell? ⟨gj, j * 6 + 5, none⟩ = some (.slice zka zkn zkc))) := fun w' hf => ⟨hf.cell (a := wr.drew) b4, hf.cell (a := wr.drew) c4, hf.cell (a := wr.drew) d0, hf.cell (a := wr.drew) d1, hf.cell (a := wr.drew) d2, hf.cell (a := wr.drew) d3, hf.cell (a := wr.drew) d4, hf.cell (a := wr.drew) d5, hf.cell (a := wr.drew) e0, hf.cell (a := wr.drew) e1, hf.cell (a := wr.drew) e2, hf.cell (a := wr.drew) e3, hf.cell (a := wr.drew) e4, hf.cell (a := wr.drew) e5⟩
      cases b with
      | true =>
        go_wp2_with fail
        go_region_held3 (fun w' => (w'.cell? ⟨B2, 4, none⟩ = some (.slice (some ⟨gi, 0, none⟩) l.length lc) ∧ w'.cell? ⟨B2 + 1, 4, none⟩ = some (.slice (some ⟨gj, 0, none⟩) l'.length lc') ∧ w'.cell? ⟨gi, j * 6, none⟩ = some (.int .i64 yk) ∧ w'.cell? ⟨gi, j * 6 + 1, none⟩ = some (.bool yf) ∧ w'.cell? ⟨gi, j * 6 + 2, none⟩ = some (.int .i64 yn) ∧ w'.cell? ⟨gi, j * 6 + 3, none⟩ = some (.string ys) ∧ w'.cell? ⟨gi, j * 6 + 4, none⟩ = some (.slice yla yln ylc) ∧ w'.cell? ⟨gi, j * 6 + 5, none⟩ = some (.slice yka ykn ykc) ∧ w'.cell? ⟨gj, j * 6, none⟩ = some (.int .i64 zk) ∧ w'.cell? ⟨gj, j * 6 + 1, none⟩ = some (.bool zf) ∧ w'.cell? ⟨gj, j * 6 + 2, none⟩ = some (.int .i64 zn) ∧ w'.cell? ⟨gj, j * 6 + 3, none⟩ = some (.string zs) ∧ w'.cell? ⟨gj, j * 6 + 4, none⟩ = some (.slice zla zln zlc) ∧ w'.cell? ⟨gj, j * 6 + 5, none⟩ = some (.slice zka zkn zkc))) (go_keep)
          (first | (go_at_call 14; (with_reducible refine HQ.out.mono ?_); rintro e W1 ⟨rfl, hf⟩; obtain ⟨k0, k1, k2, k3, k4, k5, k6, k7, k8, k9, k10, k11, k12, k13⟩ := HKP.out _ hf; have HF := Lib.hid (HW.out.drew.trans hf); clear hf))
        clear k0 k1 k2 k3 k4 k5 k6 k7 k8 k9 k10 k11 k12 k13 b0 b1 b2 b3 b4 b5 c0 c1 c2 c3 c4 c5 d0 d1 d2 d3 d4 d5 e0 e1 e2 e3 e4 e5
        go_wp2
        go_roundw
        case rel =>
          have HX2 : Hid (sameL (l.map M.plain) (l'.map M.plain) = sameL ((l.map M.plain).drop (j + 1)) ((l'.map M.plain).drop (j + 1))) := by rw [Hid, HE.out, HX.out, Bool.true_and]
          exact ⟨j + 1, by omega, by go_num, HX2.out, HF.out⟩
        case measure => simp [intOf]; omega
      | false =>
        go_wp2_with fail
        go_region_held3 (fun w' => (w'.cell? ⟨B2, 4, none⟩ = some (.slice (some ⟨gi, 0, none⟩) l.length lc) ∧ w'.cell? ⟨B2 + 1, 4, none⟩ = some (.slice (some ⟨gj, 0, none⟩) l'.length lc') ∧ w'.cell? ⟨gi, j * 6, none⟩ = some (.int .i64 yk) ∧ w'.cell? ⟨gi, j * 6 + 1, none⟩ = some (.bool yf) ∧ w'.cell? ⟨gi, j * 6 + 2, none⟩ = some (.int .i64 yn) ∧ w'.cell? ⟨gi, j * 6 + 3, none⟩ = some (.string ys) ∧ w'.cell? ⟨gi, j * 6 + 4, none⟩ = some (.slice yla yln ylc) ∧ w'.cell? ⟨gi, j * 6 + 5, none⟩ = some (.slice yka ykn ykc) ∧ w'.cell? ⟨gj, j * 6, none⟩ = some (.int .i64 zk) ∧ w'.cell? ⟨gj, j * 6 + 1, none⟩ = some (.bool zf) ∧ w'.cell? ⟨gj, j * 6 + 2, none⟩ = some (.int .i64 zn) ∧ w'.cell? ⟨gj, j * 6 + 3, none⟩ = some (.string zs) ∧ w'.cell? ⟨gj, j * 6 + 4, none⟩ = some (.slice zla zln zlc) ∧ w'.cell? ⟨gj, j * 6 + 5, none⟩ = some (.slice zka zkn zkc))) (go_keep)
          (first | (go_at_call 14; (with_reducible refine HQ.out.mono ?_); rintro e W1 ⟨rfl, hf⟩; obtain ⟨k0, k1, k2, k3, k4, k5, k6, k7, k8, k9, k10, k11, k12, k13⟩ := HKP.out _ hf; have HF := Lib.hid (HW2.out.drew.trans hf); clear hf))
        clear k0 k1 k2 k3 k4 k5 k6 k7 k8 k9 k10 k11 k12 k13 b0 b1 b2 b3 b4 b5 c0 c1 c2 c3 c4 c5 d0 d1 d2 d3 d4 d5 e0 e1 e2 e3 e4 e5
        go_wp2
        go_ret
        exact ⟨ret_bool (by rw [HE.out, HX.out, Bool.false_and]), HF.out⟩
    · obtain rfl : j = l.length := by omega
      have HX : Hid (sameL (l.map M.plain) (l'.map M.plain) = true) := by
        rw [Hid, HE.out, List.drop_eq_nil_of_le (by simp), List.drop_eq_nil_of_le (by simp [HLEN.out])]; rfl
      clear HE
      go_wp2
      go_ret
      exact ⟨ret_bool (by rw [HX.out]), HW2.out⟩
theorem sameK_drop (l l' : List (ByteArray × M)) (j : Nat) (h : j < l.length) (h' : j < l'.length) : sameK (plainK (l.drop j)) (plainK (l'.drop j)) = (decide (l[j].1 = l'[j].1) && (l[j].2.plain.same l'[j].2.plain && sameK (plainK (l.drop (j + 1))) (plainK (l'.drop (j + 1))))) := by
  rw [List.drop_eq_getElem_cons h, List.drop_eq_getElem_cons h']
  generalize l[j] = p
  generalize l'[j] = q
  obtain ⟨s, x⟩ := p
  obtain ⟨t, y⟩ := q
  simp only [plainK, sameK]
set_option maxRecDepth 100000 in
set_option maxHeartbeats 2000000 in
theorem rsame_keys (f f' : Bool) (n n' : Int) (s s' : ByteArray) (la la' : Option Addr) (ln ln' lc lc' : Nat) (ka ka' : Option Addr) (kc kc' : Nat) (l l' : List (ByteArray × M)) (w : World) (hl : RowAt w ka (pcells l)) (hl' : RowAt w ka' (pcells l')) (ll : l.length ≤ 1000000) (hlen : l.length = l'.length)
    (ih : ∀ x ∈ l, ∀ y ∈ l', ∀ W, Fresh w W → Calls Tryd.prog 14 #[x.2.val, y.2.val] W fun e w' => e = .returned (.bool (x.2.plain.same y.2.plain)) ∧ Fresh W w') :
    Calls Tryd.prog 14 #[mval 5 f n s la ln lc ka l.length kc, mval 5 f' n' s' la' ln' lc' ka' l'.length kc'] w fun e w' => e = .returned (.bool (sameK (plainK l) (plainK l'))) ∧ Fresh w w' := by
  have HIH := Lib.hid ih
  have HR := Lib.hid hl
  have HR' := Lib.hid hl'
  have HLEN := Lib.hid hlen
  have ll' : l'.length ≤ 1000000 := by omega
  have hlb : ((l.length : Int) == (l'.length : Int)) = true := by rw [hlen]; simp
  have hlb2 : (l.length == l'.length) = true := by rw [hlen]; simp
  have hlb3 : ((l.length : Int) != (l'.length : Int)) = false := by rw [hlen]; simp
  clear ih hl hl' hlen
  obtain ⟨hA, hB⟩ := boxes_two w (.cells #[.int .i64 5, .bool f, .int .i64 n, .string s, .slice la ln lc, .slice ka l.length kc] 33) (.cells #[.int .i64 5, .bool f', .int .i64 n', .string s', .slice la' ln' lc', .slice ka' l'.length kc'] 33)
  have HA := Lib.hid hA
  have HB := Lib.hid hB
  clear hA hB
  go_enter Tryd.func14, Tryd.ntmps14
  go_wp2
  have HF0 := Lib.hid (((Fresh.refl w).alloc (.cells #[.int .i64 5, .bool f, .int .i64 n, .string s, .slice la ln lc, .slice ka l.length kc] 33)).alloc (.cells #[.int .i64 5, .bool f', .int .i64 n', .string s', .slice la' ln' lc', .slice ka' l'.length kc'] 33))
  generalize (w.alloc (.cells #[.int .i64 5, .bool f, .int .i64 n, .string s, .slice la ln lc, .slice ka l.length kc] 33)).alloc (.cells #[.int .i64 5, .bool f', .int .i64 n', .string s', .slice la' ln' lc', .slice ka' l'.length kc'] 33) = w0 at *
  generalize hB2 : w.heap.size = B2 at *
  clear hB2 hlb hlb2 hlb3
  go_loopw [6] (fun a wq => ∃ j : Nat, j ≤ l.length ∧ a = .int .i64 j ∧ Hid (sameK (plainK l) (plainK l') = sameK (plainK (l.drop j)) (plainK (l'.drop j))) ∧ Hid (Fresh w0 wq)) (fun a _ => l.length - (intOf a).toNat)
  case atStart => exact ⟨0, Nat.zero_le _, rfl, rfl, Fresh.refl _⟩
  case round =>
    obtain ⟨j, hj, rfl, HE, HW⟩ := hrel
    obtain ⟨b0, b1, b2, b3, b4, b5⟩ := box6at HW.out HA.out
    obtain ⟨c0, c1, c2, c3, c4, c5⟩ := box6at HW.out HB.out
    have HW2 := Lib.hid (HF0.out.trans HW.out)
    by_cases hlt : j < l.length
    · have hltm : j < l'.length := by rw [← HLEN.out]; exact hlt
      obtain ⟨gi, eg⟩ := prow_some HR.out j hlt
      obtain ⟨gj, eg'⟩ := prow_some HR'.out j hltm
      subst eg eg'
      obtain ⟨nc, hy⟩ := prow_get (HR.out.move HW2.out) j hlt
      obtain ⟨nc', hz⟩ := prow_get (HR'.out.move HW2.out) j hltm
      have hd := sameK_drop l l' j hlt hltm
      have HX := Lib.hid hd
      have i1 : (0 : Int) ≤ (j : Int) := by omega
      have i2 : (j : Int) < (l.length : Int) := by omega
      have i3 : (j : Int) < (l'.length : Int) := by omega
      have HQ : Hid (Calls Tryd.prog 14 #[l[j].2.val, l'[j].2.val] wr.drew fun e w' => e = .returned (.bool (l[j].2.plain.same l'[j].2.plain)) ∧ Fresh wr.drew w') := HIH.out _ (List.getElem_mem _) _ (List.getElem_mem _) wr.drew HW2.out.drew
      clear hd
      generalize l[j] = y2 at *
      generalize l'[j] = z2 at *
      obtain ⟨nm, y⟩ := y2
      obtain ⟨nm', z⟩ := z2
      dsimp only at nc nc' HX HQ hy hz
      generalize y.plain.same z.plain = b at *
      obtain ⟨yk, yf, yn, ys, yla, ylc, yl, yka, ykc, yks⟩ := y
      obtain ⟨zk, zf, zn, zs, zla, zlc, zl, zka, zkc, zks⟩ := z
      obtain ⟨d0, d1, d2, d3, d4, d5⟩ := hy
      obtain ⟨e0, e1, e2, e3, e4, e5⟩ := hz
      dsimp only [M.val] at HQ
      generalize yl.length = yln at *
      generalize yks.length = ykn at *
      generalize zl.length = zln at *
      generalize zks.length = zkn at *
      have HKP : Hid (∀ w', Fresh wr.drew w' → (w'.cell? ⟨B2, 5, none⟩ = some (.slice (some ⟨gi, 0, none⟩) l.length kc) ∧ w'.cell? ⟨B2 + 1, 5, none⟩ = some (.slice (some ⟨gj, 0, none⟩) l'.length kc') ∧ w'.cell? ⟨gi, j * 7, none⟩ = some (.string nm) ∧ w'.cell? ⟨gj, j * 7, none⟩ = some (.string nm') ∧ w'.cell? ⟨gi, j * 7 + 1, none⟩ = some (.int .i64 yk) ∧ w'.cell? ⟨gi, j * 7 + 2, none⟩ = some (.bool yf) ∧ w'.cell? ⟨gi, j * 7 + 3, none⟩ = some (.int .i64 yn) ∧ w'.cell? ⟨gi, j * 7 + 4, none⟩ = some (.string ys) ∧ w'.cell? ⟨gi, j * 7 + 5, none⟩ = some (.slice yla yln ylc) ∧ w'.cell? ⟨gi, j * 7 + 6, none⟩ = some (.slice yka ykn ykc) ∧ w'.cell? ⟨gj, j * 7 + 1, none⟩ = some (.int .i64 zk) ∧ w'.cell? ⟨gj, j * 7 + 2, none⟩ = some (.bool zf) ∧ w'.cell? ⟨gj, j * 7 + 3, none⟩ = some (.int .i64 zn) ∧ w'.cell? ⟨gj, j * 7 + 4, none⟩ = some (.string zs) ∧ w'.cell? ⟨gj, j * 7 + 5, none⟩ = some (.slice zla zln zlc) ∧ w'.cell? ⟨gj, j * 7 + 6, none⟩ = some (.slice zka zkn zkc))) := fun w' hf => ⟨hf.cell (a := wr.drew) b5, hf.cell (a := wr.drew) c5, hf.cell (a := wr.drew) nc, hf.cell (a := wr.drew) nc', hf.cell (a := wr.drew) d0, hf.cell (a := wr.drew) d1, hf.cell (a := wr.drew) d2, hf.cell (a := wr.drew) d3, hf.cell (a := wr.drew) d4, hf.cell (a := wr.drew) d5, hf.cell (a := wr.drew) e0, hf.cell (a := wr.drew) e1, hf.cell (a := wr.drew) e2, hf.cell (a := wr.drew) e3, hf.cell (a := wr.drew) e4, hf.cell (a := wr.drew) e5⟩
      by_cases hnm : nm = nm'
      · have HNM : Hid (decide (nm = nm') = true) := decide_eq_true hnm
        have hnb : (nm.toList == nm'.toList) = true := by rw [toList_beq, decide_eq_true hnm]
        have hnb2 : (nm.toList != nm'.toList) = false := by rw [bne, hnb]; rfl
        clear hnm
        cases b with
        | true =>
          go_wp2_with fail
          go_region_held3 (fun w' => (w'.cell? ⟨B2, 5, none⟩ = some (.slice (some ⟨gi, 0, none⟩) l.length kc) ∧ w'.cell? ⟨B2 + 1, 5, none⟩ = some (.slice (some ⟨gj, 0, none⟩) l'.length kc') ∧ w'.cell? ⟨gi, j * 7, none⟩ = some (.string nm) ∧ w'.cell? ⟨gj, j * 7, none⟩ = some (.string nm') ∧ w'.cell? ⟨gi, j * 7 + 1, none⟩ = some (.int .i64 yk) ∧ w'.cell? ⟨gi, j * 7 + 2, none⟩ = some (.bool yf) ∧ w'.cell? ⟨gi, j * 7 + 3, none⟩ = some (.int .i64 yn) ∧ w'.cell? ⟨gi, j * 7 + 4, none⟩ = some (.string ys) ∧ w'.cell? ⟨gi, j * 7 + 5, none⟩ = some (.slice yla yln ylc) ∧ w'.cell? ⟨gi, j * 7 + 6, none⟩ = some (.slice yka ykn ykc) ∧ w'.cell? ⟨gj, j * 7 + 1, none⟩ = some (.int .i64 zk) ∧ w'.cell? ⟨gj, j * 7 + 2, none⟩ = some (.bool zf) ∧ w'.cell? ⟨gj, j * 7 + 3, none⟩ = some (.int .i64 zn) ∧ w'.cell? ⟨gj, j * 7 + 4, none⟩ = some (.string zs) ∧ w'.cell? ⟨gj, j * 7 + 5, none⟩ = some (.slice zla zln zlc) ∧ w'.cell? ⟨gj, j * 7 + 6, none⟩ = some (.slice zka zkn zkc))) (go_keep)
            (first | (go_at_call 14; (with_reducible refine HQ.out.mono ?_); rintro e W1 ⟨rfl, hf⟩; obtain ⟨k0, k1, k2, k3, k4, k5, k6, k7, k8, k9, k10, k11, k12, k13, k14, k15⟩ := HKP.out _ hf; have HF := Lib.hid (HW.out.drew.trans hf); clear hf))
          clear k0 k1 k2 k3 k4 k5 k6 k7 k8 k9 k10 k11 k12 k13 k14 k15 nc nc' b0 b1 b2 b3 b4 b5 c0 c1 c2 c3 c4 c5 d0 d1 d2 d3 d4 d5 e0 e1 e2 e3 e4 e5
          go_wp2
          go_roundw
          case rel =>
            have HX2 : Hid (sameK (plainK l) (plainK l') = sameK (plainK (l.drop (j + 1))) (plainK (l'.drop (j + 1)))) := by rw [Hid, HE.out, HX.out, HNM.out]; simp
            exact ⟨j + 1, by omega, by go_num, HX2.out, HF.out⟩
          case measure => simp [intOf]; omega
        | false =>
          go_wp2_with fail
          go_region_held3 (fun w' => (w'.cell? ⟨B2, 5, none⟩ = some (.slice (some ⟨gi, 0, none⟩) l.length kc) ∧ w'.cell? ⟨B2 + 1, 5, none⟩ = some (.slice (some ⟨gj, 0, none⟩) l'.length kc') ∧ w'.cell? ⟨gi, j * 7, none⟩ = some (.string nm) ∧ w'.cell? ⟨gj, j * 7, none⟩ = some (.string nm') ∧ w'.cell? ⟨gi, j * 7 + 1, none⟩ = some (.int .i64 yk) ∧ w'.cell? ⟨gi, j * 7 + 2, none⟩ = some (.bool yf) ∧ w'.cell? ⟨gi, j * 7 + 3, none⟩ = some (.int .i64 yn) ∧ w'.cell? ⟨gi, j * 7 + 4, none⟩ = some (.string ys) ∧ w'.cell? ⟨gi, j * 7 + 5, none⟩ = some (.slice yla yln ylc) ∧ w'.cell? ⟨gi, j * 7 + 6, none⟩ = some (.slice yka ykn ykc) ∧ w'.cell? ⟨gj, j * 7 + 1, none⟩ = some (.int .i64 zk) ∧ w'.cell? ⟨gj, j * 7 + 2, none⟩ = some (.bool zf) ∧ w'.cell? ⟨gj, j * 7 + 3, none⟩ = some (.int .i64 zn) ∧ w'.cell? ⟨gj, j * 7 + 4, none⟩ = some (.string zs) ∧ w'.cell? ⟨gj, j * 7 + 5, none⟩ = some (.slice zla zln zlc) ∧ w'.cell? ⟨gj, j * 7 + 6, none⟩ = some (.slice zka zkn zkc))) (go_keep)
            (first | (go_at_call 14; (with_reducible refine HQ.out.mono ?_); rintro e W1 ⟨rfl, hf⟩; obtain ⟨k0, k1, k2, k3, k4, k5, k6, k7, k8, k9, k10, k11, k12, k13, k14, k15⟩ := HKP.out _ hf; have HF := Lib.hid (HW2.out.drew.trans hf); clear hf))
          clear k0 k1 k2 k3 k4 k5 k6 k7 k8 k9 k10 k11 k12 k13 k14 k15 nc nc' b0 b1 b2 b3 b4 b5 c0 c1 c2 c3 c4 c5 d0 d1 d2 d3 d4 d5 e0 e1 e2 e3 e4 e5
          go_wp2
          go_ret
          exact ⟨ret_bool (by rw [HE.out, HX.out, HNM.out]; simp), HF.out⟩
      · have HNM : Hid (decide (nm = nm') = false) := decide_eq_false hnm
        have hnb : (nm.toList == nm'.toList) = false := by rw [toList_beq, decide_eq_false hnm]
        have hnb2 : (nm.toList != nm'.toList) = true := by rw [bne, hnb]; rfl
        have HF := Lib.hid HW2.out
        clear hnm HQ HKP
        go_wp2_with fail
        go_quiet (fail)
        go_wp2
        go_ret
        exact ⟨ret_bool (by rw [HE.out, HX.out, HNM.out]; simp), HF.out.drewN _⟩
    · obtain rfl : j = l.length := by omega
      have HX : Hid (sameK (plainK l) (plainK l') = true) := by
        rw [Hid, HE.out, List.drop_length, HLEN.out, List.drop_length]; rfl
      clear HE
      go_wp2
      go_ret
      exact ⟨ret_bool (by rw [HX.out]), HW2.out⟩
theorem rsame_all (N : Nat) : ∀ (m m' : M) (w : World), m.plain.size ≤ N → m.At w → m'.At w → Calls Tryd.prog 14 #[m.val, m'.val] w fun e w' => e = .returned (.bool (m.plain.same m'.plain)) ∧ Fresh w w' := by
  induction N with
  | zero => intro m m' w hN; have := m.plain.size_pos; omega
  | succ N ih =>
    intro m m' w hN hat hat'
    have hsz := size_inside m.plain
    rw [plain_inside] at hsz
    have hin : ∀ x ∈ m.inside, ∀ y : M, y.At w → ∀ W, Fresh w W → Calls Tryd.prog 14 #[x.val, y.val] W fun e w' => e = .returned (.bool (x.plain.same y.plain)) ∧ Fresh W w' := fun x hx y hy W hf => by
      have := size_mem (List.mem_map_of_mem (f := M.plain) hx)
      exact ih x y W (by omega) ((hat.inside x hx).move hf) (hy.move hf)
    obtain ⟨k, f, n, s, la, lc, l, ka, kc, ks⟩ := m
    obtain ⟨k', f', n', s', la', lc', l', ka', kc', ks'⟩ := m'
    obtain ⟨_, hl, hk, ll, lk, _, ml, mk⟩ := hat.parts
    obtain ⟨_, hl', hk', ll', lk', _, ml', mk'⟩ := hat'.parts
    dsimp only [M.plain]
    by_cases e : k = k'
    · subst e
      by_cases h4 : k = 4
      · subst h4
        have hs : (V.mk 4 f n s (plainL l) (plainK ks)).same (V.mk 4 f' n' s' (plainL l') (plainK ks')) = sameL (l.map M.plain) (l'.map M.plain) := by
          simp [V.same, plainL_eq]
        rw [hs]
        by_cases hlen : l.length = l'.length
        · exact rsame_list f f' n n' s s' la la' lc lc' l l' ka ka' ks.length kc ks'.length kc' w hl hl' ll hlen (fun x hx y hy => hin x hx y (ml' y hy))
        · rw [sameL_parted (by simpa using hlen)]
          exact rsame_list_len f f' n n' s s' la la' l.length lc l'.length lc' ka ka' ks.length kc ks'.length kc' w hlen
      by_cases h5 : k = 5
      · subst h5
        have hs : (V.mk 5 f n s (plainL l) (plainK ks)).same (V.mk 5 f' n' s' (plainL l') (plainK ks')) = sameK (plainK ks) (plainK ks') := by
          simp [V.same]
        rw [hs]
        by_cases hlen : ks.length = ks'.length
        · exact rsame_keys f f' n n' s s' la la' l.length l'.length lc lc' ka ka' kc kc' ks ks' w hk hk' lk hlen (fun x hx y hy => hin x.2 (List.mem_map_of_mem (f := (·.2)) hx) y.2 (mk' y hy))
        · have : sameK (plainK ks) (plainK ks') = false := by
            rw [sameK_eq, sameL_parted (by simpa [plainK_eq] using hlen), Bool.and_false]
          rw [this]
          exact rsame_keys_len f f' n n' s s' la la' l.length lc l'.length lc' ka ka' ks.length kc ks'.length kc' w hlen
      · exact rsame_plain k k f f' n n' s s' la la' l.length lc l'.length lc' ka ka' ks.length kc ks'.length kc' _ w h4 h5 (by simp [V.same, h4, h5])
    · have hs : (V.mk k f n s (plainL l) (plainK ks)).same (V.mk k' f' n' s' (plainL l') (plainK ks')) = false := by
        simp [V.same, e]
      rw [hs]
      exact rsame_parted k k' f f' n n' s s' la la' l.length lc l'.length lc' ka ka' ks.length kc ks'.length kc' w e
theorem rsame_any (m m' : M) (w : World) (h : m.At w) (h' : m'.At w) : Calls Tryd.prog 14 #[m.val, m'.val] w fun e w' => e = .returned (.bool (m.plain.same m'.plain)) ∧ Fresh w w' :=
  rsame_all m.plain.size m m' w (Nat.le_refl _) h h'
end Go.Proofs.YtonakfkiidhebaaDoor
