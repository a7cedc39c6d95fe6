/-
  The document's Same, of lists and of keys.
  The document's Get.
  Package value: Depth.
-/
import Derived.Test.YthhdadfnkdjmkaaGreatDoorCat14
import Derived.Test.YthhdadfnkdjmkaaGreatDoorCat04
namespace Go.Proofs.YthhdadfnkdjmkaaGreatDoor.v
open Go.ChangeShapes Go.WideShapes Go.ChangeAt Go.RowKit
attribute [local go_sem ↓] Go.wp_at_zero Go.wp_at_succ
variable {w : World}

theorem boxes_two (w : World) (o p : Obj) : ((w.alloc o).alloc p).heap[w.heap.size]? = some o ∧ ((w.alloc o).alloc p).heap[w.heap.size + 1]? = some p :=
  ⟨at_alloc (at_new w o), by have := at_new (w.alloc o) p; rw [World.size_alloc] at this; exact this⟩
set_option maxRecDepth 100000 in
set_option maxHeartbeats 2000000 in
theorem rsame_list (f f' : Bool) (n n' : Int) (s s' : ByteArray) (la la' : Option Addr) (lc lc' : Nat) (l l' : List M) (ka ka' : Option Addr) (kn kc kn' kc' : Nat) (w : World) (hl : RowAt w la (mcells l)) (hl' : RowAt w la' (mcells l')) (ll : l.length ≤ 1000000) (hlen : l.length = l'.length)
    (ih : ∀ x ∈ l, ∀ y ∈ l', ∀ W, Fresh w W → Calls Tryz.prog 9 #[x.val, y.val] W fun e w' => e = .returned (.bool (x.plain.same y.plain)) ∧ Fresh W w') :
    Calls Tryz.prog 9 #[mval 4 f n s la l.length lc ka kn kc, mval 4 f' n' s' la' l'.length lc' ka' kn' kc'] w fun e w' => e = .returned (.bool (sameL (l.map M.plain) (l'.map M.plain))) ∧ Fresh w w' := by
  have HIH := Lib.hid ih
  have HR := Lib.hid hl
  have HR' := Lib.hid hl'
  have HLEN := Lib.hid hlen
  have ll' : l'.length ≤ 1000000 := by omega
  have hlb : ((l.length : Int) == (l'.length : Int)) = true := by rw [hlen]; simp
  have hlb2 : (l.length == l'.length) = true := by rw [hlen]; simp
  have hlb3 : ((l.length : Int) != (l'.length : Int)) = false := by rw [hlen]; simp
  clear ih hl hl' hlen
  obtain ⟨hA, hB⟩ := boxes_two w (.cells #[.int .i64 4, .bool f, .int .i64 n, .string s, .slice la l.length lc, .slice ka kn kc] 36) (.cells #[.int .i64 4, .bool f', .int .i64 n', .string s', .slice la' l'.length lc', .slice ka' kn' kc'] 36)
  have HA := Lib.hid hA
  have HB := Lib.hid hB
  clear hA hB
  go_enter Tryz.func9, Tryz.ntmps9
  go_wp2
  have HF0 := Lib.hid (((Fresh.refl w).alloc (.cells #[.int .i64 4, .bool f, .int .i64 n, .string s, .slice la l.length lc, .slice ka kn kc] 36)).alloc (.cells #[.int .i64 4, .bool f', .int .i64 n', .string s', .slice la' l'.length lc', .slice ka' kn' kc'] 36))
  generalize (w.alloc (.cells #[.int .i64 4, .bool f, .int .i64 n, .string s, .slice la l.length lc, .slice ka kn kc] 36)).alloc (.cells #[.int .i64 4, .bool f', .int .i64 n', .string s', .slice la' l'.length lc', .slice ka' kn' kc'] 36) = w0 at *
  generalize hB2 : w.heap.size = B2 at *
  clear hB2 hlb hlb2 hlb3
  go_loopw [5] (fun a wq => ∃ j : Nat, j ≤ l.length ∧ a = .int .i64 j ∧ Hid (sameL (l.map M.plain) (l'.map M.plain) = sameL ((l.map M.plain).drop j) ((l'.map M.plain).drop j)) ∧ Hid (Fresh w0 wq)) (fun a _ => l.length - (intOf a).toNat)
  case atStart => exact ⟨0, Nat.zero_le _, rfl, rfl, Fresh.refl _⟩
  case round =>
    obtain ⟨j, hj, rfl, HE, HW⟩ := hrel
    obtain ⟨b0, b1, b2, b3, b4, b5⟩ := box6at HW.out HA.out
    obtain ⟨c0, c1, c2, c3, c4, c5⟩ := box6at HW.out HB.out
    have HW2 := Lib.hid (HF0.out.trans HW.out)
    by_cases hlt : j < l.length
    · have hltm : j < l'.length := by rw [← HLEN.out]; exact hlt
      obtain ⟨gi, eg⟩ := row_some HR.out j hlt
      obtain ⟨gj, eg'⟩ := row_some HR'.out j hltm
      subst eg eg'
      have hy := mrow_get (HR.out.move HW2.out) j hlt
      have hz := mrow_get (HR'.out.move HW2.out) j hltm
      have hd := sameL_drop (l.map M.plain) (l'.map M.plain) j (by simpa using hlt) (by simpa using hltm)
      rw [List.getElem_map, List.getElem_map] at hd
      have HX := Lib.hid hd
      have i1 : (0 : Int) ≤ (j : Int) := by omega
      have i2 : (j : Int) < (l.length : Int) := by omega
      have i3 : (j : Int) < (l'.length : Int) := by omega
      have HQ : Hid (Calls Tryz.prog 9 #[l[j].val, l'[j].val] wr.drew fun e w' => e = .returned (.bool (l[j].plain.same l'[j].plain)) ∧ Fresh wr.drew w') := HIH.out _ (List.getElem_mem _) _ (List.getElem_mem _) wr.drew HW2.out.drew
      clear hd
      generalize l[j] = y at *
      generalize l'[j] = z at *
      generalize y.plain.same z.plain = b at *
      obtain ⟨yk, yf, yn, ys, yla, ylc, yl, yka, ykc, yks⟩ := y
      obtain ⟨zk, zf, zn, zs, zla, zlc, zl, zka, zkc, zks⟩ := z
      obtain ⟨d0, d1, d2, d3, d4, d5⟩ := hy
      obtain ⟨e0, e1, e2, e3, e4, e5⟩ := hz
      dsimp only [M.val] at HQ
      generalize yl.length = yln at *
      generalize yks.length = ykn at *
      generalize zl.length = zln at *
      generalize zks.length = zkn at *
      have HKP : Hid (∀ w', Fresh wr.drew w' → (w'.cell? ⟨B2, 4, none⟩ = some (.slice (some ⟨gi, 0, none⟩) l.length lc) ∧ w'.cell? ⟨B2 + 1, 4, none⟩ = some (.slice (some ⟨gj, 0, none⟩) l'.length lc') ∧ w'.cell? ⟨gi, j * 6, none⟩ = some (.int .i64 yk) ∧ w'.cell? ⟨gi, j * 6 + 1, none⟩ = some (.bool yf) ∧ w'.cell? ⟨gi, j * 6 + 2, none⟩ = some (.int .i64 yn) ∧ w'.cell? ⟨gi, j * 6 + 3, none⟩ = some (.string ys) ∧ w'.cell? ⟨gi, j * 6 + 4, none⟩ = some (.slice yla yln ylc) ∧ w'.cell? ⟨gi, j * 6 + 5, none⟩ = some (.slice yka ykn ykc) ∧ w'.cell? ⟨gj, j * 6, none⟩ = some (.int .i64 zk) ∧ w'.cell? ⟨gj, j * 6 + 1, none⟩ = some (.bool zf) ∧ w'.cell? ⟨gj, j * 6 + 2, none⟩ = some (.int .i64 zn) ∧ w'.cell? ⟨gj, j * 6 + 3, none⟩ = some (.string zs) ∧ w'.cell? ⟨gj, j * 6 + 4, none⟩ = some (.slice zla zln zlc) ∧ w'.cell? ⟨gj, j * 6 + 5, none⟩ = some (.slice zka zkn zkc))) := fun w' hf => ⟨hf.cell (a := wr.drew) b4, hf.cell (a := wr.drew) c4, hf.cell (a := wr.drew) d0, hf.cell (a := wr.drew) d1, hf.cell (a := wr.drew) d2, hf.cell (a := wr.drew) d3, hf.cell (a := wr.drew) d4, hf.cell (a := wr.drew) d5, hf.cell (a := wr.drew) e0, hf.cell (a := wr.drew) e1, hf.cell (a := wr.drew) e2, hf.cell (a := wr.drew) e3, hf.cell (a := wr.drew) e4, hf.cell (a := wr.drew) e5⟩
      cases b with
      | true =>
        go_wp2_with fail
        go_region_held3 (fun w' => (w'.cell? ⟨B2, 4, none⟩ = some (.slice (some ⟨gi, 0, none⟩) l.length lc) ∧ w'.cell? ⟨B2 + 1, 4, none⟩ = some (.slice (some ⟨gj, 0, none⟩) l'.length lc') ∧ w'.cell? ⟨gi, j * 6, none⟩ = some (.int .i64 yk) ∧ w'.cell? ⟨gi, j * 6 + 1, none⟩ = some (.bool yf) ∧ w'.cell? ⟨gi, j * 6 + 2, none⟩ = some (.int .i64 yn) ∧ w'.cell? ⟨gi, j * 6 + 3, none⟩ = some (.string ys) ∧ w'.cell? ⟨gi, j * 6 + 4, none⟩ = some (.slice yla yln ylc) ∧ w'.cell? ⟨gi, j * 6 + 5, none⟩ = some (.slice yka ykn ykc) ∧ w'.cell? ⟨gj, j * 6, none⟩ = some (.int .i64 zk) ∧ w'.cell? ⟨gj, j * 6 + 1, none⟩ = some (.bool zf) ∧ w'.cell? ⟨gj, j * 6 + 2, none⟩ = some (.int .i64 zn) ∧ w'.cell? ⟨gj, j * 6 + 3, none⟩ = some (.string zs) ∧ w'.cell? ⟨gj, j * 6 + 4, none⟩ = some (.slice zla zln zlc) ∧ w'.cell? ⟨gj, j * 6 + 5, none⟩ = some (.slice zka zkn zkc))) (go_keep)
          (first | (go_at_call 9; (with_reducible refine HQ.out.mono ?_); rintro e W1 ⟨rfl, hf⟩; obtain ⟨k0, k1, k2, k3, k4, k5, k6, k7, k8, k9, k10, k11, k12, k13⟩ := HKP.out _ hf; have HF := Lib.hid (HW.out.drew.trans hf); clear hf))
        clear k0 k1 k2 k3 k4 k5 k6 k7 k8 k9 k10 k11 k12 k13 b0 b1 b2 b3 b4 b5 c0 c1 c2 c3 c4 c5 d0 d1 d2 d3 d4 d5 e0 e1 e2 e3 e4 e5
        go_wp2
        go_roundw
        case rel =>
          have HX2 : Hid (sameL (l.map M.plain) (l'.map M.plain) = sameL ((l.map M.plain).drop (j + 1)) ((l'.map M.plain).drop (j + 1))) := by rw [Hid, HE.out, HX.out, Bool.true_and]
          exact ⟨j + 1, by omega, by go_num, HX2.out, HF.out⟩
        case measure => simp [intOf]; omega
      | false =>
        go_wp2_with fail
        go_region_held3 (fun w' => (w'.cell? ⟨B2, 4, none⟩ = some (.slice (some ⟨gi, 0, none⟩) l.length lc) ∧ w'.cell? ⟨B2 + 1, 4, none⟩ = some (.slice (some ⟨gj, 0, none⟩) l'.length lc') ∧ w'.cell? ⟨gi, j * 6, none⟩ = some (.int .i64 yk) ∧ w'.cell? ⟨gi, j * 6 + 1, none⟩ = some (.bool yf) ∧ w'.cell? ⟨gi, j * 6 + 2, none⟩ = some (.int .i64 yn) ∧ w'.cell? ⟨gi, j * 6 + 3, none⟩ = some (.string ys) ∧ w'.cell? ⟨gi, j * 6 + 4, none⟩ = some (.slice yla yln ylc) ∧ w'.cell? ⟨gi, j * 6 + 5, none⟩ = some (.slice yka ykn ykc) ∧ w'.cell? ⟨gj, j * 6, none⟩ = some (.int .i64 zk) ∧ w'.cell? ⟨gj, j * 6 + 1, none⟩ = some (.bool zf) ∧ w'.cell? ⟨gj, j * 6 + 2, none⟩ = some (.int .i64 zn) ∧ w'.cell? ⟨gj, j * 6 + 3, none⟩ = some (.string zs) ∧ w'.cell? ⟨gj, j * 6 + 4, none⟩ = some (.slice zla zln zlc) ∧ w'.cell? ⟨gj, j * 6 + 5, none⟩ = some (.slice zka zkn zkc))) (go_keep)
          (first | (go_at_call 9; (with_reducible refine HQ.out.mono ?_); rintro e W1 ⟨rfl, hf⟩; obtain ⟨k0, k1, k2, k3, k4, k5, k6, k7, k8, k9, k10, k11, k12, k13⟩ := HKP.out _ hf; have HF := Lib.hid (HW2.out.drew.trans hf); clear hf))
        clear k0 k1 k2 k3 k4 k5 k6 k7 k8 k9 k10 k11 k12 k13 b0 b1 b2 b3 b4 b5 c0 c1 c2 c3 c4 c5 d0 d1 d2 d3 d4 d5 e0 e1 e2 e3 e4 e5
        go_wp2
        go_ret
        exact ⟨ret_bool (by rw [HE.out, HX.out, Bool.false_and]), HF.out⟩
    · obtain rfl : j = l.length := by omega
      have HX : Hid (sameL (l.map M.plain) (l'.map M.plain) = true) := by
        rw [Hid, HE.out, List.drop_eq_nil_of_le (by simp), List.drop_eq_nil_of_le (by simp [HLEN.out])]; rfl
      clear HE
      go_wp2
      go_ret
      exact ⟨ret_bool (by rw [HX.out]), HW2.out⟩
theorem sameK_drop (l l' : List (ByteArray × M)) (j : Nat) (h : j < l.length) (h' : j < l'.length) : sameK (plainK (l.drop j)) (plainK (l'.drop j)) = (decide (l[j].1 = l'[j].1) && (l[j].2.plain.same l'[j].2.plain && sameK (plainK (l.drop (j + 1))) (plainK (l'.drop (j + 1))))) := by
  rw [List.drop_eq_getElem_cons h, List.drop_eq_getElem_cons h']
  generalize l[j] = p
  generalize l'[j] = q
  obtain ⟨s, x⟩ := p
  obtain ⟨t, y⟩ := q
  simp only [plainK, sameK]
set_option maxRecDepth 100000 in
set_option maxHeartbeats 2000000 in
theorem rsame_keys (f f' : Bool) (n n' : Int) (s s' : ByteArray) (la la' : Option Addr) (ln ln' lc lc' : Nat) (ka ka' : Option Addr) (kc kc' : Nat) (l l' : List (ByteArray × M)) (w : World) (hl : RowAt w ka (pcells l)) (hl' : RowAt w ka' (pcells l')) (ll : l.length ≤ 1000000) (hlen : l.length = l'.length)
    (ih : ∀ x ∈ l, ∀ y ∈ l', ∀ W, Fresh w W → Calls Tryz.prog 9 #[x.2.val, y.2.val] W fun e w' => e = .returned (.bool (x.2.plain.same y.2.plain)) ∧ Fresh W w') :
    Calls Tryz.prog 9 #[mval 5 f n s la ln lc ka l.length kc, mval 5 f' n' s' la' ln' lc' ka' l'.length kc'] w fun e w' => e = .returned (.bool (sameK (plainK l) (plainK l'))) ∧ Fresh w w' := by
  have HIH := Lib.hid ih
  have HR := Lib.hid hl
  have HR' := Lib.hid hl'
  have HLEN := Lib.hid hlen
  have ll' : l'.length ≤ 1000000 := by omega
  have hlb : ((l.length : Int) == (l'.length : Int)) = true := by rw [hlen]; simp
  have hlb2 : (l.length == l'.length) = true := by rw [hlen]; simp
  have hlb3 : ((l.length : Int) != (l'.length : Int)) = false := by rw [hlen]; simp
  clear ih hl hl' hlen
  obtain ⟨hA, hB⟩ := boxes_two w (.cells #[.int .i64 5, .bool f, .int .i64 n, .string s, .slice la ln lc, .slice ka l.length kc] 36) (.cells #[.int .i64 5, .bool f', .int .i64 n', .string s', .slice la' ln' lc', .slice ka' l'.length kc'] 36)
  have HA := Lib.hid hA
  have HB := Lib.hid hB
  clear hA hB
  go_enter Tryz.func9, Tryz.ntmps9
  go_wp2
  have HF0 := Lib.hid (((Fresh.refl w).alloc (.cells #[.int .i64 5, .bool f, .int .i64 n, .string s, .slice la ln lc, .slice ka l.length kc] 36)).alloc (.cells #[.int .i64 5, .bool f', .int .i64 n', .string s', .slice la' ln' lc', .slice ka' l'.length kc'] 36))
  generalize (w.alloc (.cells #[.int .i64 5, .bool f, .int .i64 n, .string s, .slice la ln lc, .slice ka l.length kc] 36)).alloc (.cells #[.int .i64 5, .bool f', .int .i64 n', .string s', .slice la' ln' lc', .slice ka' l'.length kc'] 36) = w0 at *
  generalize hB2 : w.heap.size = B2 at *
  clear hB2 hlb hlb2 hlb3
  go_loopw [6] (fun a wq => ∃ j : Nat, j ≤ l.length ∧ a = .int .i64 j ∧ Hid (sameK (plainK l) (plainK l') = sameK (plainK (l.drop j)) (plainK (l'.drop j))) ∧ Hid (Fresh w0 wq)) (fun a _ => l.length - (intOf a).toNat)
  case atStart => exact ⟨0, Nat.zero_le _, rfl, rfl, Fresh.refl _⟩
  case round =>
    obtain ⟨j, hj, rfl, HE, HW⟩ := hrel
    obtain ⟨b0, b1, b2, b3, b4, b5⟩ := box6at HW.out HA.out
    obtain ⟨c0, c1, c2, c3, c4, c5⟩ := box6at HW.out HB.out
    have HW2 := Lib.hid (HF0.out.trans HW.out)
    by_cases hlt : j < l.length
    · have hltm : j < l'.length := by rw [← HLEN.out]; exact hlt
      obtain ⟨gi, eg⟩ := prow_some HR.out j hlt
      obtain ⟨gj, eg'⟩ := prow_some HR'.out j hltm
      subst eg eg'
      obtain ⟨nc, hy⟩ := prow_get (HR.out.move HW2.out) j hlt
      obtain ⟨nc', hz⟩ := prow_get (HR'.out.move HW2.out) j hltm
      have hd := sameK_drop l l' j hlt hltm
      have HX := Lib.hid hd
      have i1 : (0 : Int) ≤ (j : Int) := by omega
      have i2 : (j : Int) < (l.length : Int) := by omega
      have i3 : (j : Int) < (l'.length : Int) := by omega
      have HQ : Hid (Calls Tryz.prog 9 #[l[j].2.val, l'[j].2.val] wr.drew fun e w' => e = .returned (.bool (l[j].2.plain.same l'[j].2.plain)) ∧ Fresh wr.drew w') := HIH.out _ (List.getElem_mem _) _ (List.getElem_mem _) wr.drew HW2.out.drew
      clear hd
      generalize l[j] = y2 at *
      generalize l'[j] = z2 at *
      obtain ⟨nm, y⟩ := y2
      obtain ⟨nm', z⟩ := z2
      dsimp only at nc nc' HX HQ hy hz
      generalize y.plain.same z.plain = b at *
      obtain ⟨yk, yf, yn, ys, yla, ylc, yl, yka, ykc, yks⟩ := y
      obtain ⟨zk, zf, zn, zs, zla, zlc, zl, zka, zkc, zks⟩ := z
      obtain ⟨d0, d1, d2, d3, d4, d5⟩ := hy
      obtain ⟨e0, e1, e2, e3, e4, e5⟩ := hz
      dsimp only [M.val] at HQ
      generalize yl.length = yln at *
      generalize yks.length = ykn at *
      generalize zl.length = zln at *
      generalize zks.length = zkn at *
      have HKP : Hid (∀ w', Fresh wr.drew w' → (w'.cell? ⟨B2, 5, none⟩ = some (.slice (some ⟨gi, 0, none⟩) l.length kc) ∧ w'.cell? ⟨B2 + 1, 5, none⟩ = some (.slice (some ⟨gj, 0, none⟩) l'.length kc') ∧ w'.cell? ⟨gi, j * 7, none⟩ = some (.string nm) ∧ w'.cell? ⟨gj, j * 7, none⟩ = some (.string nm') ∧ w'.cell? ⟨gi, j * 7 + 1, none⟩ = some (.int .i64 yk) ∧ w'.cell? ⟨gi, j * 7 + 2, none⟩ = some (.bool yf) ∧ w'.cell? ⟨gi, j * 7 + 3, none⟩ = some (.int .i64 yn) ∧ w'.cell? ⟨gi, j * 7 + 4, none⟩ = some (.string ys) ∧ w'.cell? ⟨gi, j * 7 + 5, none⟩ = some (.slice yla yln ylc) ∧ w'.cell? ⟨gi, j * 7 + 6, none⟩ = some (.slice yka ykn ykc) ∧ w'.cell? ⟨gj, j * 7 + 1, none⟩ = some (.int .i64 zk) ∧ w'.cell? ⟨gj, j * 7 + 2, none⟩ = some (.bool zf) ∧ w'.cell? ⟨gj, j * 7 + 3, none⟩ = some (.int .i64 zn) ∧ w'.cell? ⟨gj, j * 7 + 4, none⟩ = some (.string zs) ∧ w'.cell? ⟨gj, j * 7 + 5, none⟩ = some (.slice zla zln zlc) ∧ w'.cell? ⟨gj, j * 7 + 6, none⟩ = some (.slice zka zkn zkc))) := fun w' hf => ⟨hf.cell (a := wr.drew) b5, hf.cell (a := wr.drew) c5, hf.cell (a := wr.drew) nc, hf.cell (a := wr.drew) nc', hf.cell (a := wr.drew) d0, hf.cell (a := wr.drew) d1, hf.cell (a := wr.drew) d2, hf.cell (a := wr.drew) d3, hf.cell (a := wr.drew) d4, hf.cell (a := wr.drew) d5, hf.cell (a := wr.drew) e0, hf.cell (a := wr.drew) e1, hf.cell (a := wr.drew) e2, hf.cell (a := wr.drew) e3, hf.cell (a := wr.drew) e4, hf.cell (a := wr.drew) e5⟩
      by_cases hnm : nm = nm'
      · have HNM : Hid (decide (nm = nm') = true) := decide_eq_true hnm
        have hnb : (nm.toList == nm'.toList) = true := by rw [toList_beq, decide_eq_true hnm]
        have hnb2 : (nm.toList != nm'.toList) = false := by rw [bne, hnb]; rfl
        clear hnm
        cases b with
        | true =>
          go_wp2_with fail
          go_region_held3 (fun w' => (w'.cell? ⟨B2, 5, none⟩ = some (.slice (some ⟨gi, 0, none⟩) l.length kc) ∧ w'.cell? ⟨B2 + 1, 5, none⟩ = some (.slice (some ⟨gj, 0, none⟩) l'.length kc') ∧ w'.cell? ⟨gi, j * 7, none⟩ = some (.string nm) ∧ w'.cell? ⟨gj, j * 7, none⟩ = some (.string nm') ∧ w'.cell? ⟨gi, j * 7 + 1, none⟩ = some (.int .i64 yk) ∧ w'.cell? ⟨gi, j * 7 + 2, none⟩ = some (.bool yf) ∧ w'.cell? ⟨gi, j * 7 + 3, none⟩ = some (.int .i64 yn) ∧ w'.cell? ⟨gi, j * 7 + 4, none⟩ = some (.string ys) ∧ w'.cell? ⟨gi, j * 7 + 5, none⟩ = some (.slice yla yln ylc) ∧ w'.cell? ⟨gi, j * 7 + 6, none⟩ = some (.slice yka ykn ykc) ∧ w'.cell? ⟨gj, j * 7 + 1, none⟩ = some (.int .i64 zk) ∧ w'.cell? ⟨gj, j * 7 + 2, none⟩ = some (.bool zf) ∧ w'.cell? ⟨gj, j * 7 + 3, none⟩ = some (.int .i64 zn) ∧ w'.cell? ⟨gj, j * 7 + 4, none⟩ = some (.string zs) ∧ w'.cell? ⟨gj, j * 7 + 5, none⟩ = some (.slice zla zln zlc) ∧ w'.cell? ⟨gj, j * 7 + 6, none⟩ = some (.slice zka zkn zkc))) (go_keep)
            (first | (go_at_call 9; (with_reducible refine HQ.out.mono ?_); rintro e W1 ⟨rfl, hf⟩; obtain ⟨k0, k1, k2, k3, k4, k5, k6, k7, k8, k9, k10, k11, k12, k13, k14, k15⟩ := HKP.out _ hf; have HF := Lib.hid (HW.out.drew.trans hf); clear hf))
          clear k0 k1 k2 k3 k4 k5 k6 k7 k8 k9 k10 k11 k12 k13 k14 k15 nc nc' b0 b1 b2 b3 b4 b5 c0 c1 c2 c3 c4 c5 d0 d1 d2 d3 d4 d5 e0 e1 e2 e3 e4 e5
          go_wp2
          go_roundw
          case rel =>
            have HX2 : Hid (sameK (plainK l) (plainK l') = sameK (plainK (l.drop (j + 1))) (plainK (l'.drop (j + 1)))) := by rw [Hid, HE.out, HX.out, HNM.out]; simp
            exact ⟨j + 1, by omega, by go_num, HX2.out, HF.out⟩
          case measure => simp [intOf]; omega
        | false =>
          go_wp2_with fail
          go_region_held3 (fun w' => (w'.cell? ⟨B2, 5, none⟩ = some (.slice (some ⟨gi, 0, none⟩) l.length kc) ∧ w'.cell? ⟨B2 + 1, 5, none⟩ = some (.slice (some ⟨gj, 0, none⟩) l'.length kc') ∧ w'.cell? ⟨gi, j * 7, none⟩ = some (.string nm) ∧ w'.cell? ⟨gj, j * 7, none⟩ = some (.string nm') ∧ w'.cell? ⟨gi, j * 7 + 1, none⟩ = some (.int .i64 yk) ∧ w'.cell? ⟨gi, j * 7 + 2, none⟩ = some (.bool yf) ∧ w'.cell? ⟨gi, j * 7 + 3, none⟩ = some (.int .i64 yn) ∧ w'.cell? ⟨gi, j * 7 + 4, none⟩ = some (.string ys) ∧ w'.cell? ⟨gi, j * 7 + 5, none⟩ = some (.slice yla yln ylc) ∧ w'.cell? ⟨gi, j * 7 + 6, none⟩ = some (.slice yka ykn ykc) ∧ w'.cell? ⟨gj, j * 7 + 1, none⟩ = some (.int .i64 zk) ∧ w'.cell? ⟨gj, j * 7 + 2, none⟩ = some (.bool zf) ∧ w'.cell? ⟨gj, j * 7 + 3, none⟩ = some (.int .i64 zn) ∧ w'.cell? ⟨gj, j * 7 + 4, none⟩ = some (.string zs) ∧ w'.cell? ⟨gj, j * 7 + 5, none⟩ = some (.slice zla zln zlc) ∧ w'.cell? ⟨gj, j * 7 + 6, none⟩ = some (.slice zka zkn zkc))) (go_keep)
            (first | (go_at_call 9; (with_reducible refine HQ.out.mono ?_); rintro e W1 ⟨rfl, hf⟩; obtain ⟨k0, k1, k2, k3, k4, k5, k6, k7, k8, k9, k10, k11, k12, k13, k14, k15⟩ := HKP.out _ hf; have HF := Lib.hid (HW2.out.drew.trans hf); clear hf))
          clear k0 k1 k2 k3 k4 k5 k6 k7 k8 k9 k10 k11 k12 k13 k14 k15 nc nc' b0 b1 b2 b3 b4 b5 c0 c1 c2 c3 c4 c5 d0 d1 d2 d3 d4 d5 e0 e1 e2 e3 e4 e5
          go_wp2
          go_ret
          exact ⟨ret_bool (by rw [HE.out, HX.out, HNM.out]; simp), HF.out⟩
      · have HNM : Hid (decide (nm = nm') = false) := decide_eq_false hnm
        have hnb : (nm.toList == nm'.toList) = false := by rw [toList_beq, decide_eq_false hnm]
        have hnb2 : (nm.toList != nm'.toList) = true := by rw [bne, hnb]; rfl
        have HF := Lib.hid HW2.out
        clear hnm HQ HKP
        go_wp2_with fail
        go_quiet (fail)
        go_wp2
        go_ret
        exact ⟨ret_bool (by rw [HE.out, HX.out, HNM.out]; simp), HF.out.drewN _⟩
    · obtain rfl : j = l.length := by omega
      have HX : Hid (sameK (plainK l) (plainK l') = true) := by
        rw [Hid, HE.out, List.drop_length, HLEN.out, List.drop_length]; rfl
      clear HE
      go_wp2
      go_ret
      exact ⟨ret_bool (by rw [HX.out]), HW2.out⟩
theorem rsame_all (N : Nat) : ∀ (m m' : M) (w : World), m.plain.size ≤ N → m.At w → m'.At w → Calls Tryz.prog 9 #[m.val, m'.val] w fun e w' => e = .returned (.bool (m.plain.same m'.plain)) ∧ Fresh w w' := by
  induction N with
  | zero => intro m m' w hN; have := m.plain.size_pos; omega
  | succ N ih =>
    intro m m' w hN hat hat'
    have hsz := size_inside m.plain
    rw [plain_inside] at hsz
    have hin : ∀ x ∈ m.inside, ∀ y : M, y.At w → ∀ W, Fresh w W → Calls Tryz.prog 9 #[x.val, y.val] W fun e w' => e = .returned (.bool (x.plain.same y.plain)) ∧ Fresh W w' := fun x hx y hy W hf => by
      have := size_mem (List.mem_map_of_mem (f := M.plain) hx)
      exact ih x y W (by omega) ((hat.inside x hx).move hf) (hy.move hf)
    obtain ⟨k, f, n, s, la, lc, l, ka, kc, ks⟩ := m
    obtain ⟨k', f', n', s', la', lc', l', ka', kc', ks'⟩ := m'
    obtain ⟨_, hl, hk, ll, lk, _, ml, mk⟩ := hat.parts
    obtain ⟨_, hl', hk', ll', lk', _, ml', mk'⟩ := hat'.parts
    dsimp only [M.plain]
    by_cases e : k = k'
    · subst e
      by_cases h4 : k = 4
      · subst h4
        have hs : (V.mk 4 f n s (plainL l) (plainK ks)).same (V.mk 4 f' n' s' (plainL l') (plainK ks')) = sameL (l.map M.plain) (l'.map M.plain) := by
          simp [V.same, plainL_eq]
        rw [hs]
        by_cases hlen : l.length = l'.length
        · exact rsame_list f f' n n' s s' la la' lc lc' l l' ka ka' ks.length kc ks'.length kc' w hl hl' ll hlen (fun x hx y hy => hin x hx y (ml' y hy))
        · rw [sameL_parted (by simpa using hlen)]
          exact rsame_list_len f f' n n' s s' la la' l.length lc l'.length lc' ka ka' ks.length kc ks'.length kc' w hlen
      by_cases h5 : k = 5
      · subst h5
        have hs : (V.mk 5 f n s (plainL l) (plainK ks)).same (V.mk 5 f' n' s' (plainL l') (plainK ks')) = sameK (plainK ks) (plainK ks') := by
          simp [V.same]
        rw [hs]
        by_cases hlen : ks.length = ks'.length
        · exact rsame_keys f f' n n' s s' la la' l.length l'.length lc lc' ka ka' kc kc' ks ks' w hk hk' lk hlen (fun x hx y hy => hin x.2 (List.mem_map_of_mem (f := (·.2)) hx) y.2 (mk' y hy))
        · have : sameK (plainK ks) (plainK ks') = false := by
            rw [sameK_eq, sameL_parted (by simpa [plainK_eq] using hlen), Bool.and_false]
          rw [this]
          exact rsame_keys_len f f' n n' s s' la la' l.length lc l'.length lc' ka ka' ks.length kc ks'.length kc' w hlen
      · exact rsame_plain k k f f' n n' s s' la la' l.length lc l'.length lc' ka ka' ks.length kc ks'.length kc' _ w h4 h5 (by simp [V.same, h4, h5])
    · have hs : (V.mk k f n s (plainL l) (plainK ks)).same (V.mk k' f' n' s' (plainL l') (plainK ks')) = false := by
        simp [V.same, e]
      rw [hs]
      exact rsame_parted k k' f f' n n' s s' la la' l.length lc l'.length lc' ka ka' ks.length kc ks'.length kc' w e
theorem rsame_any (m m' : M) (w : World) (h : m.At w) (h' : m'.At w) : Calls Tryz.prog 9 #[m.val, m'.val] w fun e w' => e = .returned (.bool (m.plain.same m'.plain)) ∧ Fresh w w' :=
  rsame_all m.plain.size m m' w (Nat.le_refl _) h h'
end Go.Proofs.YthhdadfnkdjmkaaGreatDoor.v
namespace Go.Proofs.YthhdadfnkdjmkaaGreatDoor.v
open Go.ChangeShapes Go.WideShapes Go.ChangeAt Go.RowKit
attribute [local go_sem ↓] Go.wp_at_zero Go.wp_at_succ
set_option maxRecDepth 100000 in
set_option maxHeartbeats 1000000 in
theorem rget_any (m : M) (key : ByteArray) (w : World) (hat : m.At w) : Calls Tryz.prog 62 #[m.val, .string key] w (GotIs m.plain key w) := by
  obtain ⟨k, f, n, s, la, lc, l, ka, kc, ks⟩ := m
  have HAT := Lib.hid hat.parts
  clear hat
  dsimp only [M.val, M.plain]
  rw [plainL_eq, plainK_eq]
  generalize l.length = ln at *
  by_cases hk : k = 5
  · subst hk
    have HKL : Hid (ks.length ≤ 1000000) := HAT.out.2.2.2.2.1
    generalize hkn : ks.length = kn at HKL
    have HKN := Lib.hid hkn
    clear hkn
    go_enter Tryz.func62, Tryz.ntmps62
    go_wp2
    have HB1 : Hid (((w.alloc (.cells #[.int .i64 5, .bool f, .int .i64 n, .string s, .slice la ln lc, .slice ka kn kc] 36)).alloc (.cells #[.int .i64 0, .bool false, .int .i64 0, .string ⟨#[]⟩, .slice none 0 0, .slice none 0 0] 36)).heap[w.heap.size]? = some (.cells #[.int .i64 5, .bool f, .int .i64 n, .string s, .slice la ln lc, .slice ka kn kc] 36 (0, 0))) := (boxes_two w _ _).1
    have HB2 : Hid (((w.alloc (.cells #[.int .i64 5, .bool f, .int .i64 n, .string s, .slice la ln lc, .slice ka kn kc] 36)).alloc (.cells #[.int .i64 0, .bool false, .int .i64 0, .string ⟨#[]⟩, .slice none 0 0, .slice none 0 0] 36)).heap[w.heap.size + 1]? = some (.cells #[.int .i64 0, .bool false, .int .i64 0, .string ⟨#[]⟩, .slice none 0 0, .slice none 0 0] 36 (0, 0))) := (boxes_two w _ _).2
    have HWW : Hid (Fresh w ((w.alloc (.cells #[.int .i64 5, .bool f, .int .i64 n, .string s, .slice la ln lc, .slice ka kn kc] 36)).alloc (.cells #[.int .i64 0, .bool false, .int .i64 0, .string ⟨#[]⟩, .slice none 0 0, .slice none 0 0] 36))) := ((Fresh.refl w).alloc _).alloc _
    generalize (w.alloc (.cells #[.int .i64 5, .bool f, .int .i64 n, .string s, .slice la ln lc, .slice ka kn kc] 36)).alloc (.cells #[.int .i64 0, .bool false, .int .i64 0, .string ⟨#[]⟩, .slice none 0 0, .slice none 0 0] 36) = wo at *
    have p5 := cell_of_at HB1.out (i := 5) rfl
    have HLE := HKL.out
    go_loopw [6] (fun a6 wr => ∃ j : Nat, j ≤ kn ∧ a6 = .int .i64 j ∧ Hid ((ks.take j).find? (fun p => decide (p.1 = key)) = none) ∧ wr = wo) (fun a6 _ => kn - (intOf a6).toNat)
    case atStart => exact ⟨0, Nat.zero_le _, rfl, rfl, rfl⟩
    case round =>
      obtain ⟨j, hj, rfl, HA, rfl⟩ := hrel
      obtain ⟨c0, c1, c2, c3, c4, c5⟩ := box6' HB2.out
      obtain ⟨z0, z1, z2, z3, z4, z5⟩ : wr.frozen? ⟨w.heap.size + 1, 0, none⟩ = false ∧ wr.frozen? ⟨w.heap.size + 1, 1, none⟩ = false ∧ wr.frozen? ⟨w.heap.size + 1, 2, none⟩ = false ∧ wr.frozen? ⟨w.heap.size + 1, 3, none⟩ = false ∧ wr.frozen? ⟨w.heap.size + 1, 4, none⟩ = false ∧ wr.frozen? ⟨w.heap.size + 1, 5, none⟩ = false := by simp [World.frozen?, HB2.out]
      by_cases hlq : j < kn
      · have hlt : j < ks.length := by rw [HKN.out]; exact hlq
        obtain ⟨g, eg⟩ := prow_some HAT.out.2.2.1 j hlt
        subst eg
        have hy := prow_get (HAT.out.2.2.1.move HWW.out) j hlt
        have HB : Hid (ks[j].1 = key → ks.find? (fun p => decide (p.1 = key)) = some ks[j]) := find_at hlt HA.out
        have HC : Hid (¬ ks[j].1 = key → (ks.take (j + 1)).find? (fun p => decide (p.1 = key)) = none) := find_on hlt HA.out
        have HYA : Hid (ks[j].2.At w) := HAT.out.2.2.2.2.2.2.2 _ (List.getElem_mem _)
        have i1 : (j : Int) < (kn : Int) := by omega
        have i3 : (0 : Int) ≤ (j : Int) := by omega
        generalize ks[j] = p at *
        obtain ⟨s', y⟩ := p
        obtain ⟨yk, yf, yn, ys, yla, ylc, yl, yka, ykc, yks⟩ := y
        dsimp only at hy HB HC HYA
        obtain ⟨dk, d0, d1, d2, d3, d4, d5⟩ := hy
        have HYV : Hid ((M.mk yk yf yn ys yla ylc yl yka ykc yks).val = .agg #[.int .i64 yk, .bool yf, .int .i64 yn, .string ys, .slice yla yl.length ylc, .slice yka yks.length ykc]) := rfl
        generalize yl.length = yln at *
        generalize yks.length = ykn at *
        by_cases hs : s' = key
        · have HE : Hid (ks.find? (fun p => decide (p.1 = key)) = some (s', M.mk yk yf yn ys yla ylc yl yka ykc yks)) := HB.out hs
          have hs2 : (s'.toList == key.toList) = true := by rw [toList_beq, decide_eq_true hs]
          clear hs
          go_wp2
          refine bodyPost_ret (v := .tuple #[.agg #[.int .i64 yk, .bool yf, .int .i64 yn, .string ys, .slice yla yln ylc, .slice yka ykn ykc], .bool true]) (by simp [results, Tryz.results62, go_sem, *]) rfl ⟨⟨M.mk yk yf yn ys yla ylc yl yka ykc yks, true, by rw [HYV.out], ?_, (gets_some HE.out).symm⟩, ?_⟩
          · refine HYA.out.move ?_
            exact Fresh.setCells (by omega) [.int .i64 yk, .bool yf, .int .i64 yn, .string ys, .slice yla yln ylc, .slice yka ykn ykc] 0 HWW.out
          · exact Fresh.setCells (by omega) [.int .i64 yk, .bool yf, .int .i64 yn, .string ys, .slice yla yln ylc, .slice yka ykn ykc] 0 HWW.out
        · have HE := HC.out hs
          have HE2 := Lib.hid HE
          have hs2 : (s'.toList == key.toList) = false := by rw [toList_beq, decide_eq_false hs]
          clear HE hs c0 c1 c2 c3 c4 c5 z0 z1 z2 z3 z4 z5
          go_wp2
          go_roundw
          case rel => exact ⟨j + 1, by omega, by go_num, HE2.out, by trivial⟩
          case measure => simp [intOf]; omega
      · obtain rfl : j = kn := by omega
        have HE : Hid (ks.find? (fun p => decide (p.1 = key)) = none) := by
          have := HA.out
          rw [List.take_of_length_le (by rw [HKN.out]; exact Nat.le_refl _)] at this
          exact this
        go_wp2
        refine bodyPost_ret (v := .tuple #[M0.val, .bool false]) (by simp [results, Tryz.results62, go_sem, M0, M.val, *]) rfl ⟨⟨M0, false, rfl, m0_at _, by rw [m0_plain]; exact (gets_none HE.out).symm⟩, ?_⟩
        exact Fresh.setCells (by omega) [.int .i64 0, .bool false, .int .i64 0, .string ⟨#[]⟩, .slice none 0 0, .slice none 0 0] 0 HWW.out
  · have e5 : (k == 5) = false := by simpa using hk
    have HK := Lib.hid hk
    clear hk
    generalize ks.length = kn at *
    go_enter Tryz.func62, Tryz.ntmps62
    go_wp2
    refine bodyPost_ret (v := .tuple #[M0.val, .bool false]) (by simp [results, Tryz.results62, go_sem, M0, M.val, *]) rfl ⟨⟨M0, false, rfl, m0_at _, by rw [m0_plain]; exact (gets_no HK.out).symm⟩, ?_⟩
    exact ((Fresh.refl w).alloc _).alloc _
end Go.Proofs.YthhdadfnkdjmkaaGreatDoor.v
namespace Go.Proofs.YthhdadfnkdjmkaaGreatDoor.v
open Go.ChangeShapes Go.WideShapes Go.ChangeAt Go.RowKit
variable {w : World}

theorem info64 : (Tryz.prog.info? 80).map (fun i => (i.zero, i.size, i.bytes)) = some (some (.agg #[.int .i64 0, .bool false, .int .i64 0, .string ⟨#[]⟩, .slice none 0 0, .slice none 0 0, .int .i64 0]), 7, 96) := by kernel_rfl
theorem sizeL_take (l : List V) : ∀ k : Nat, sizeL (l.take k) ≤ sizeL l := by
  induction l with
  | nil => intro k; simp
  | cons v l ih =>
    intro k
    cases k with
    | zero => simp [sizeL]
    | succ k => have := ih k; simp only [List.take_succ_cons, sizeL]; omega
def wcellsOf (p : M × Nat) : List Value := p.1.cells ++ [.int .i64 p.2]
def wcells (l : List (M × Nat)) : List Value := l.flatMap wcellsOf
theorem wcellsOf_length (p : M × Nat) : (wcellsOf p).length = 7 := by simp [wcellsOf, cells_length]
theorem wcells_snoc (l : List (M × Nat)) (p : M × Nat) : wcells (l ++ [p]) = wcells l ++ wcellsOf p := flat_snoc _ _ _
theorem wcells_length (l : List (M × Nat)) : (wcells l).length = l.length * 7 := flat_length _ _ wcellsOf_length l
theorem wcells_one (p : M × Nat) : ∀ u ∈ wcellsOf p, u.oneCell' = true := by
  intro u hu
  unfold wcellsOf at hu
  rw [List.mem_append, List.mem_singleton] at hu
  rcases hu with hu | rfl
  · exact cells_one _ u hu
  · rfl
def pst (l : List (M × Nat)) : List (V × Nat) := l.map fun p => (p.1.plain, p.2)
theorem pst_append (l m : List (M × Nat)) : pst (l ++ m) = pst l ++ pst m := by simp [pst]
def pushM (l : List M) (n : Nat) : List (M × Nat) := (l.filter fun m => m.plain.holds).map fun m => (m, n)
theorem pst_pushM (l : List M) (n : Nat) : pst (pushM l n) = pushed (l.map M.plain) n := by
  induction l with
  | nil => rfl
  | cons m l ih =>
    unfold pst pushM pushed at *
    simp only [List.map_cons, List.filter_cons]
    split <;> simp [ih]
theorem pushM_take (l : List M) (n k : Nat) (hk : k < l.length) : pushM (l.take (k + 1)) n = pushM (l.take k) n ++ if l[k].plain.holds = true then [(l[k], n)] else [] := by
  unfold pushM
  rw [List.take_succ_eq_append_getElem hk, List.filter_append, List.map_append]
  cases h : l[k].plain.holds <;> simp [h]
theorem pushM_mem {l : List M} {n : Nat} {p : M × Nat} (h : p ∈ pushM l n) : p.1 ∈ l ∧ p.1.plain.holds = true ∧ p.2 = n := by
  unfold pushM at h
  obtain ⟨m, hm, rfl⟩ := List.mem_map.1 h
  rw [List.mem_filter] at hm
  exact ⟨hm.1, by simpa using hm.2, rfl⟩
/-- What is left to look at, as it lies. -/
structure Left (w wr : World) (a : Option Addr) (c : Nat) (st : List (M × Nat)) : Prop where
  own : wr.ownsRow w.heap.size 80 7 (.slice a st.length c) st.length (wcells st)
  fresh : Fresh w wr
/-- What holds of it. -/
structure Todo (w : World) (R d : Nat) (st : List (M × Nat)) : Prop where
  all : ∀ p ∈ st, p.1.At w ∧ p.1.plain.holds = true ∧ 1 ≤ p.2
  bd : max d (bnd (pst st)) = R
theorem Todo.step {w : World} {R d : Nat} {st : List (M × Nat)} {m : M} {n : Nat} (h : Todo w R d (st ++ [(m, n)])) : Todo w R (max d n) (st ++ pushM m.inside (n + 1)) := by
  obtain ⟨h1, h2, h3⟩ := h.all (m, n) (by simp)
  refine ⟨fun p hp => ?_, ?_⟩
  · rcases List.mem_append.1 hp with hp | hp
    · exact h.all p (by simp [hp])
    · obtain ⟨a, b, c⟩ := pushM_mem hp
      exact ⟨h1.inside _ a, b, by omega⟩
  · have := bnd_step (pst st) m.plain n d h2 h3
    rw [← h.bd, pst_append, pst_append, pst_pushM, ← plain_inside]
    exact this.symm
theorem Todo.bound {w : World} {R d : Nat} {st : List (M × Nat)} {m : M} {n : Nat} (h : Todo w R d (st ++ [(m, n)])) : 1 ≤ n ∧ n ≤ R ∧ d ≤ R := by
  obtain ⟨_, h2, h3⟩ := h.all (m, n) (by simp)
  have := bnd_mem (l := pst (st ++ [(m, n)])) (v := m.plain) (n := n) (by simp [pst])
  have hd := m.plain.depth_holds h2
  have := h.bd
  have hn : 1 ≤ n := h3
  refine ⟨hn, ?_, by omega⟩
  omega
theorem Left.last {w wr : World} {a : Option Addr} {c : Nat} {st : List (M × Nat)} {m : M} {n : Nat} (h : Left w wr a c (st ++ [(m, n)])) :
    ∃ g, a = some ⟨g, 0, none⟩ ∧ w.heap.size ≤ g ∧ st.length + 1 ≤ c ∧ m.lies wr g (st.length * 7) ∧ wr.cell? ⟨g, st.length * 7 + 6, none⟩ = some (.int .i64 n) ∧ Left w wr a c st := by
  have ho := h.own
  rw [wcells_snoc, List.length_append, List.length_singleton] at ho
  have hrow := RowAt.owns ho
  have hpop := owns_pop ho (wcellsOf_length _)
  rcases ho.2 with ⟨_, e⟩ | ⟨g, cap, cur, e, hb, _, hnc, _⟩
  · omega
  · cases e
    rcases hrow with ⟨e, _⟩ | ⟨g', e, hrow⟩
    · cases e
    · cases e
      have hg : ∀ j x, (wcellsOf (m, n))[j]? = some x → wr.cell? ⟨g, st.length * 7 + j, none⟩ = some x := fun j x hj => hrow _ _ (by
        rw [List.getElem?_append_right (by rw [wcells_length]; omega), wcells_length, Nat.add_sub_cancel_left]; exact hj)
      refine ⟨g, rfl, hb, hnc, M.lies.of _ fun j x hj => hg j x ?_, hg 6 _ ?_, hpop, h.fresh⟩
      · unfold wcellsOf
        rw [List.getElem?_append_left (List.getElem?_eq_some_iff.1 hj).1]; exact hj
      · unfold wcellsOf
        rw [List.getElem?_append_right (by rw [cells_length]; omega), cells_length]; rfl
theorem Left.push {w w1 w2 : World} {a : Option Addr} {c g cap : Nat} {st : List (M × Nat)} {p : M × Nat} (h : Left w w1 a c st) (o : Obj) (ho : w2.ownsRow w.heap.size 80 7 (.slice (some ⟨g, 0, none⟩) (st.length + 1) cap) (st.length + 1) (wcells st ++ wcellsOf p)) (hg : (w1.alloc o).grownBy w2 (Value.slice a st.length c).ownBlock) : Left w w2 (some ⟨g, 0, none⟩) cap (st ++ [p]) :=
  ⟨by rw [wcells_snoc, List.length_append, List.length_singleton]; exact ho, own_grown (Nat.le_refl _) (World.ownsRow.alloc h.own o) (h.fresh.alloc o) hg⟩
theorem Left.move {w wr w' : World} {a : Option Addr} {c : Nat} {st : List (M × Nat)} (h : Left w wr a c st) (f : Fresh wr w') : Left w w' a c st := ⟨owns_move h.own f, h.fresh.trans f⟩
/-- Two slices lie apart, if there is something in the second. -/
def Apart (a b : Option Addr) (l : List M) : Prop := l ≠ [] → ∀ x y : Addr, a = some x → b = some y → x.block ≠ y.block
theorem apart_start {w W : World} {g : Nat} {ia : Option Addr} {x : M} (hx : x.At w) (hg : w.heap.size ≤ g) (hgW : g < W.heap.size) (h : (∀ w0, x.At w0 → RowAt w0 ia (mcells x.inside)) ∨ ∀ ad : Addr, ia = some ad → W.heap.size ≤ ad.block) : Apart (some ⟨g, 0, none⟩) ia x.inside := by
  intro hne p q hp hq
  cases hp
  rcases h with h | h
  · have hc : mcells x.inside ≠ [] := fun e => hne (by
      have := congrArg List.length e
      rw [mcells_length] at this
      simp only [List.length_nil] at this
      exact List.eq_nil_of_length_eq_zero (by omega))
    have := (h w hx).lt hc q hq
    show g ≠ q.block
    omega
  · have := h q hq
    show g ≠ q.block
    omega
theorem after_push {w W w5 : World} {a' ia : Option Addr} {c' q g' cap' bx lev : Nat} {ST : List (M × Nat)} {p : M × Nat} {ins : List M} (o : Obj)
    (hq : q = ST.length) (hL : Left w W a' c' ST) (hR : RowAt W ia (mcells ins)) (hne : ins ≠ []) (hA : Apart a' ia ins) (hlv : W.cell? ⟨bx, 6, none⟩ = some (.int .i64 lev)) (hB : ∀ ad : Addr, a' = some ad → ad.block ≠ bx)
    (hown : w5.ownsRow w.heap.size 80 7 (.slice (some ⟨g', 0, none⟩) (q + 1) cap') (q + 1) (wcells ST ++ wcellsOf p)) (hgrow : (W.alloc o).grownBy w5 (Value.slice a' q c').ownBlock) (hat : (Value.slice a' q c').ownBlock = some g' ∨ g' = W.heap.size + 1) :
    Left w w5 (some ⟨g', 0, none⟩) cap' (ST ++ [p]) ∧ RowAt w5 ia (mcells ins) ∧ Apart (some ⟨g', 0, none⟩) ia ins ∧ w5.cell? ⟨bx, 6, none⟩ = some (.int .i64 lev) ∧ ∀ ad : Addr, some (⟨g', 0, none⟩ : Addr) = some ad → ad.block ≠ bx := by
  subst hq
  have hb : ∀ k, (Value.slice a' ST.length c').ownBlock = some k → ∃ ad : Addr, a' = some ad ∧ ad.block = k := fun k h => by
    cases a' with
    | none => cases h
    | some ad => exact ⟨ad, rfl, by simpa [Value.ownBlock] using h⟩
  have hc : mcells ins ≠ [] := fun e => hne (by
    have := congrArg List.length e
    rw [mcells_length] at this
    simp only [List.length_nil] at this
    exact List.eq_nil_of_length_eq_zero (by omega))
  have hbx := World.block_lt_of_cell? W _ hlv
  refine ⟨hL.push o hown hgrow, (hR.move ((Fresh.refl W).alloc o)).grown hgrow (fun ad e h => ?_), fun _ x y hx hy => ?_, ?_, fun ad e => ?_⟩
  · obtain ⟨x, hx, hxb⟩ := hb _ h.symm
    exact hA hne x ad hx e hxb
  · cases hx
    rcases hat with h | h
    · obtain ⟨x, hx, hxb⟩ := hb _ h
      have := hA hne x y hx hy
      show g' ≠ y.block
      omega
    · have := hR.lt hc y hy
      show g' ≠ y.block
      omega
  · refine hgrow.cell (((Fresh.refl W).alloc o).cell hlv) (fun h => ?_)
    obtain ⟨x, hx, hxb⟩ := hb _ h.symm
    exact hB x hx hxb
  · cases e
    rcases hat with h | h
    · obtain ⟨x, hx, hxb⟩ := hb _ h
      have := hB x hx
      show g' ≠ bx
      omega
    · have : bx < W.heap.size := hbx
      show g' ≠ bx
      omega
theorem box6 {w : World} {b : Nat} {c0 c1 c2 c3 c4 c5 : Value} {T : TypeId} {z : Nat × Nat} (h : w.heap[b]? = some (.cells #[c0, c1, c2, c3, c4, c5] T z)) :
    w.cell? ⟨b, 0, none⟩ = some c0 ∧ w.cell? ⟨b, 1, none⟩ = some c1 ∧ w.cell? ⟨b, 2, none⟩ = some c2 ∧ w.cell? ⟨b, 3, none⟩ = some c3 ∧ w.cell? ⟨b, 4, none⟩ = some c4 ∧ w.cell? ⟨b, 5, none⟩ = some c5 :=
  ⟨cell_of_at h rfl, cell_of_at h rfl, cell_of_at h rfl, cell_of_at h rfl, cell_of_at h rfl, cell_of_at h rfl⟩
theorem left_start (m : M) (w W : World) (b : Nat) (hb : W.heap[b]? = some (.cells (m.cells ++ [Value.int .i64 1]).toArray 80 (0, 0))) (hle : w.heap.size ≤ b) (hf : Fresh w W) : Left w W (some ⟨b, 0, none⟩) 1 [(m, 1)] :=
  ⟨by
    have := owns_built (B := w.heap.size) (k := 7) (n := 1) hb hle (by simp [cells_length]) (by decide)
    simpa [wcells, wcellsOf] using this, hf⟩
set_option maxRecDepth 100000 in
set_option maxHeartbeats 2000000 in
theorem depth_yes (m : M) (w : World) (h : m.At w) (hs : m.plain.size ≤ 1000000) (hh : m.plain.holds = true) :
    Calls Tryz.prog 17 #[m.val] w fun e w' => e = .returned (.int .i64 m.plain.depth) ∧ Fresh w w' := by
  obtain ⟨i0, hi, hz0, hz1, hz2⟩ := info_parts info64
  have hR : m.plain.depth ≤ 1000000 := Nat.le_trans m.plain.depth_size hs
  have HR : Hid (Todo w m.plain.depth 0 [(m, 1)]) := ⟨fun p hp => by rw [List.mem_singleton] at hp; subst hp; exact ⟨h, hh, Nat.le_refl _⟩, by simp [pst, bnd]⟩
  have HZ : Hid (szs (pst [(m, 1)]) ≤ 1000000) := by simp [Hid, pst, szs]; exact hs
  have HQ : Hid (∀ W, Calls Tryz.prog 41 #[m.val] W fun e w' => e = .returned (.bool true) ∧ Fresh W w') := fun W => by rw [← hh]; exact holds_any m W
  have HL := Lib.hid (left_start m w)
  generalize m.plain.depth = R at *
  clear h hh hs
  obtain ⟨k, f, n, s, la, lc, l, ka, kc, ks⟩ := m
  dsimp only [M.val, M.cells] at *
  generalize hM : M.mk k f n s la lc l ka kc ks = m at *
  clear hM
  generalize l.length = ln at *
  generalize ks.length = kn at *
  go_enter Tryz.func17, Tryz.ntmps17
  go_wp2_with fail
  refine (HQ.out _).mono ?_
  rintro e w1 ⟨rfl, hf⟩
  obtain ⟨b0, b1, b2, b3, b4, b5⟩ := box6 (hf.at (at_new w _))
  have HF := Lib.hid (((Fresh.refl w).alloc _).trans hf)
  have hz : w.heap.size < w1.heap.size := World.block_lt_of_cell? w1 _ b0
  clear hf
  go_wp2
  have HL1 : Hid (Left w _ _ _ _) := HL.out _ w1.heap.size (at_new w1 _) (Nat.le_of_lt hz) (HF.out.alloc _)
  clear HL b0 b1 b2 b3 b4 b5
  go_loopg [3, 4] (szs (pst [(m, 1)])) (fun gg a3 a4 wr => ∃ (d c q : Nat) (a : Option Addr) (st : List (M × Nat)), a3 = .int .i64 d ∧ a4 = .slice a q c ∧ Hid (q = st.length) ∧ Hid (szs (pst st) ≤ gg) ∧ Hid (gg ≤ 1000000) ∧ Hid (Left w wr a c st) ∧ Hid (Todo w R d st))
  case atStart => exact ⟨0, 1, 1, _, [(m, 1)], rfl, rfl, rfl, Nat.le_refl _, HZ, HL1, HR⟩
  case round =>
    obtain ⟨d, c, q, a, st, rfl, rfl, HN, HG, HG2, HLe, HT⟩ := hrel
    obtain ⟨wo, rfl⟩ : ∃ wo : World, wo = wr := ⟨_, rfl⟩
    clear HL1 HR HZ
    rcases List.eq_nil_or_concat st with rfl | ⟨st0, ⟨x, lev⟩, e⟩
    · have hd := HT.out.bd
      simp only [pst, List.map_nil, bnd] at hd
      have hD : d = R := by omega
      have HD := Lib.hid hD
      clear hD
      obtain rfl : q = 0 := HN.out
      clear hd
      go_wp2
      go_ret
      exact ⟨ret_int (by rw [HD.out]), HLe.out.fresh⟩
    · rw [List.concat_eq_append] at e
      subst e
      obtain ⟨g, ea, hgB, hpc, hlie, hlev, hleft⟩ := HLe.out.last
      obtain rfl : q = st0.length + 1 := by rw [HN.out]; simp
      subst ea
      obtain ⟨hl1, hl2, hl3⟩ := HT.out.bound
      have HT2 := Lib.hid HT.out.step
      have hxm := HT.out.all (x, lev) (by simp)
      have hfr := hleft.fresh
      have HI : Hid (∀ W, Fresh w W → Calls Tryz.prog 39 #[x.val] W (InsideIs x W)) := fun W hf => inside_any x W (hxm.1.move hf)
      have HAT : Hid (x.At w) := hxm.1
      have HLF := Lib.hid hleft
      have HSZ : Hid (szs (pst (st0 ++ [(x, lev)])) ≤ gk) := HG.out
      have hpb : st0.length + 1 ≤ 1000000 := by have h1 := szs_length (pst (st0 ++ [(x, lev)])); have h2 := HSZ.out; have h3 := HG2.out; simp [pst] at h1 h2; omega
      have HFR := Lib.hid hfr
      have hgl : g < wo.heap.size := World.block_lt_of_cell? wo _ hlev
      clear HLe HT hleft hxm hfr HG HN
      generalize hp : st0.length = p at *
      have HP := Lib.hid hp
      clear hp
      obtain ⟨xk, xf, xn, xs, xla, xlc, xl, xka, xkc, xks⟩ := x
      obtain ⟨c0, c1, c2, c3, c4, c5⟩ := hlie
      dsimp only [M.val] at HI
      generalize hX : M.mk xk xf xn xs xla xlc xl xka xkc xks = x at *
      clear hX
      generalize xl.length = xln at *
      generalize xks.length = xkn at *
      go_wp2_with fail
      refine (HI.out _ (HFR.out.alloc _)).mono ?_
      rintro e w2 ⟨ia, ic, rfl, hrow, hf2, hsep⟩
      have HAP := Lib.hid (apart_start HAT.out hgB (by rw [World.size_alloc]; omega) hsep)
      have hlv : w2.cell? ⟨wo.heap.size, 6, none⟩ = some (.int .i64 lev) := hf2.cell (cell_of_at (at_new wo _) rfl)
      have HLF2 := Lib.hid ((HLF.out.move ((Fresh.refl wo).alloc _)).move hf2)
      have HROW := Lib.hid hrow
      have hgw : g ≠ wo.heap.size := by omega
      clear hrow hf2 hsep HI HAT c0 c1 c2 c3 c4 c5 hlev
      have hil : x.inside.length ≤ 1000000 := by
        have h1 := szs_step (pst st0) x.plain lev (lev + 1)
        have h2 := HSZ.out
        have h3 := HG2.out
        have h4 := length_le_size (x.plain.inside)
        have h5 := size_inside x.plain
        rw [plain_inside, List.length_map] at h4
        rw [pst_append, szs_append] at h2
        simp only [pst, List.map_cons, List.map_nil, szs] at h2
        rw [plain_inside] at h5
        omega
      have HST : Hid (∀ j, szs (pst (st0 ++ pushM (x.inside.take j) (lev + 1))) < gk) := fun j => by
        have h1 := szs_pushed ((x.inside.take j).map M.plain) (lev + 1)
        have h2 := HSZ.out
        have h5 := size_inside x.plain
        have h6 : sizeL ((x.inside.take j).map M.plain) ≤ sizeL (x.inside.map M.plain) := by
          rw [List.map_take]; exact sizeL_take _ _
        rw [pst_append, szs_append] at h2 ⊢
        rw [pst_pushM]
        simp only [pst, List.map_cons, List.map_nil, szs] at h2 ⊢
        rw [plain_inside] at h5
        omega
      generalize x.inside = ins at *
      go_wp2
      go_loopw [4, 36] (fun a4 a36 wq => ∃ (j c' q : Nat) (a' : Option Addr), j ≤ ins.length ∧ a4 = .slice a' q c' ∧ a36 = .int .i64 j ∧ Hid (q = (st0 ++ pushM (ins.take j) (lev + 1)).length) ∧ Hid (Left w wq a' c' (st0 ++ pushM (ins.take j) (lev + 1))) ∧ Hid (RowAt wq ia (mcells ins)) ∧ Hid (Apart a' ia ins) ∧ wq.cell? ⟨wo.heap.size, 6, none⟩ = some (.int .i64 lev) ∧ Hid (∀ ad : Addr, a' = some ad → ad.block ≠ wo.heap.size)) (fun _ a36 _ => ins.length - (intOf a36).toNat)
      case atStart => exact ⟨0, c, p, some ⟨g, 0, none⟩, Nat.zero_le _, rfl, rfl, by simp [Hid, pushM]; exact HP.out.symm, by have := HLF2.out; simpa [Hid, pushM] using this, HROW, HAP, hlv, fun ad h => by cases h; exact hgw⟩
      case round =>
        obtain ⟨j, c', q, a', hj, rfl, rfl, HN, HL3, HR3, HA3, hlv3, HB3⟩ := hrel
        clear HLF2 HROW HAP hlv
        by_cases hlt : j < ins.length
        · obtain ⟨gi, ei⟩ := row_some HR3.out j hlt
          subst ei
          have hy := mrow_get HR3.out j hlt
          have HPT := Lib.hid (pushM_take ins (lev + 1) j hlt)
          have HQ2 : Hid (∀ W, Calls Tryz.prog 41 #[ins[j].val] W fun e w' => e = .returned (.bool ins[j].plain.holds) ∧ Fresh W w') := fun W => holds_any _ W
          have HNE : Hid (ins ≠ []) := List.ne_nil_of_length_pos (by omega)
          generalize ins[j] = y at *
          have HU := Lib.hid (wcells_one (y, lev + 1))
          generalize y.plain.holds = b at *
          obtain ⟨yk, yf, yn, ys, yla, ylc, yl, yka, ykc, yks⟩ := y
          obtain ⟨d0, d1, d2, d3, d4, d5⟩ := hy
          dsimp only [M.val] at HQ2
          have HWC : Hid (wcellsOf (M.mk yk yf yn ys yla ylc yl yka ykc yks, lev + 1) = [.int .i64 yk, .bool yf, .int .i64 yn, .string ys, .slice yla yl.length ylc, .slice yka yks.length ykc, .int .i64 (lev + 1)]) := by
            simp [Hid, wcellsOf, M.cells]
          generalize hY : M.mk yk yf yn ys yla ylc yl yka ykc yks = y at *
          clear hY
          generalize yl.length = yln at *
          generalize yks.length = ykn at *
          have hbq : wo.heap.size < wr.heap.size := World.block_lt_of_cell? wr _ hlv3
          have hgq : gi < wr.heap.size := World.block_lt_of_cell? wr _ d0
          cases b with
          | false =>
            go_wp2_with fail
            refine (HQ2.out _).mono ?_
            rintro e w4 ⟨rfl, hf4⟩
            have HF4 := Lib.hid (((Fresh.refl wr).alloc _).trans hf4)
            have hlv4 := HF4.out.cell hlv3
            clear hf4 hlv3 d0 d1 d2 d3 d4 d5
            go_wp2
            go_roundw
            case rel => exact ⟨j + 1, c', q, a', by omega, rfl, by go_num, by rw [Hid, HPT.out]; simpa using HN.out, by rw [Hid, HPT.out]; have := HL3.out.move HF4.out; simpa using this, HR3.out.move HF4.out, HA3, hlv4, HB3⟩
            case measure => simp [intOf]; omega
          | true =>
            have hq6 : q + 1 ≤ 2000000 := by
              have h1 := szs_length (pst (st0 ++ pushM (ins.take j) (lev + 1)))
              have h2 := HST.out j
              have h3 := HG2.out
              have h4 : q = _ := HN.out
              rw [show (pst (st0 ++ pushM (ins.take j) (lev + 1))).length = (st0 ++ pushM (ins.take j) (lev + 1)).length by simp [pst]] at h1
              omega
            have hm1 : q + 1 ≤ maxLen := by unfold maxLen; omega
            have hm2 : (q + 1) * 96 ≤ 140737488355328 := by omega
            have HAF : Hid (∀ {W w5 : World} {g' cap' : Nat} (o : Obj), Fresh wr W → w5.ownsRow w.heap.size 80 7 (.slice (some ⟨g', 0, none⟩) (q + 1) cap') (q + 1) (wcells (st0 ++ pushM (ins.take j) (lev + 1)) ++ wcellsOf (y, lev + 1)) → (W.alloc o).grownBy w5 (Value.slice a' q c').ownBlock → ((Value.slice a' q c').ownBlock = some g' ∨ g' = W.heap.size + 1) → _) :=
              fun o hf h1 h2 h3 => after_push (p := (y, lev + 1)) o HN.out (HL3.out.move hf) (HR3.out.move hf) HNE.out HA3.out (hf.cell hlv3) HB3.out h1 h2 h3
            have HOW : Hid (∀ W, Fresh wr W → W.ownsRow w.heap.size 80 7 (.slice a' q c') q (wcells (st0 ++ pushM (ins.take j) (lev + 1)))) := fun W hf => by
              have h1 := (HL3.out.move hf).own
              rw [← (show q = _ from HN.out)] at h1
              exact h1
            have HLO : Hid (∀ W, Fresh wr W → w.heap.size ≤ W.heap.size) := fun W hf => (HL3.out.move hf).fresh.size
            have HNX : Hid (q + 1 = (st0 ++ pushM (ins.take j) (lev + 1) ++ [(y, lev + 1)]).length) := by
              have h4 : q = _ := HN.out
              rw [Hid, List.length_append, ← h4]; rfl
            have HEQ : Hid (st0 ++ pushM (ins.take (j + 1)) (lev + 1) = st0 ++ pushM (ins.take j) (lev + 1) ++ [(y, lev + 1)]) := by
              rw [Hid, HPT.out, if_pos rfl, ← List.append_assoc]
            rw [HWC.out] at HAF HU
            generalize st0 ++ pushM (ins.take j) (lev + 1) = ST at *
            go_wp2_with fail
            refine (HQ2.out _).mono ?_
            rintro e w4 ⟨rfl, hf4⟩
            have hf5 := ((Fresh.refl wr).alloc (.cells #[.int .i64 yk, .bool yf, .int .i64 yn, .string ys, .slice yla yln ylc, .slice yka ykn ykc] 27)).trans hf4
            have HF4 := Lib.hid hf5
            have hlv4 := hf5.cell hlv3
            obtain ⟨t0, t1, t2, t3, t4, t5⟩ := box6 (hf4.at (at_new wr _))
            have hb4 : wr.heap.size < w4.heap.size := World.block_lt_of_cell? w4 _ t0
            have hRd := Lib.hid (Ready.mk' (B := w.heap.size) (k := 7) #[.int .i64 yk, .bool yf, .int .i64 yn, .string ys, .slice yla yln ylc, .slice yka ykn ykc, .int .i64 (lev + 1)] 80 (HOW.out w4 hf5) (HLO.out w4 hf5))
            clear hf4 hf5 hlv3 d0 d1 d2 d3 d4 d5 HOW HLO
            go_wp2_with (first
              | (at_builtin; refine wpList_append_lies _ rfl _ _ 81 rfl w.heap.size 80 i0 _ 7 96 Tryz.underlying81 hi hz0 hz1 hz2 rfl (by decide) (.slice a' q c') q (wcells ST) rfl hRd.out.own ⟨w4.heap.size, 0, none⟩ 1 1 [.int .i64 yk, .bool yf, .int .i64 yn, .string ys, .slice yla yln ylc, .slice yka ykn ykc, .int .i64 (lev + 1)] rfl rfl hRd.out.box HU.out (by decide) hm1 hm2 hRd.out.low _ rfl ?_; intro g' cap' w5 hown5 hgrow5 hat5 hlt5; have HE := Lib.hid (HAF.out _ HF4.out hown5 hgrow5 (by simpa using hat5)); clear hown5 hgrow5 hat5 hlt5)
              | go_in)
            go_roundw
            case rel => exact ⟨j + 1, cap', q + 1, some ⟨g', 0, none⟩, by omega, rfl, by go_num, by rw [Hid, HEQ.out]; exact HNX.out, by rw [Hid, HEQ.out]; exact HE.out.1, HE.out.2.1, HE.out.2.2.1, HE.out.2.2.2.1, HE.out.2.2.2.2⟩
            case measure => simp [intOf]; omega
        · obtain rfl : j = ins.length := by omega
          have HS := Lib.hid (HST.out ins.length)
          rw [List.take_length] at HN HL3 HS
          go_wp2
          go_roundg (szs (pst (st0 ++ pushM ins (lev + 1))))
          case measure => exact HS.out
          case rel => exact ⟨max d lev, c', q, a', st0 ++ pushM ins (lev + 1), by go_num, rfl, HN, Nat.le_refl _, Nat.le_trans (Nat.le_of_lt HS.out) HG2.out, HL3, HT2⟩
theorem depth_no (m : M) (w : World) (hh : m.plain.holds = false) : Calls Tryz.prog 17 #[m.val] w fun e w' => e = .returned (.int .i64 m.plain.depth) ∧ Fresh w w' := by
  have HQ : Hid (∀ W, Calls Tryz.prog 41 #[m.val] W fun e w' => e = .returned (.bool false) ∧ Fresh W w') := fun W => by rw [← hh]; exact holds_any m W
  rw [m.plain.depth_not hh]
  clear hh
  obtain ⟨k, f, n, s, la, lc, l, ka, kc, ks⟩ := m
  dsimp only [M.val] at *
  generalize l.length = ln at *
  generalize ks.length = kn at *
  go_enter Tryz.func17, Tryz.ntmps17
  go_wp2_with fail
  refine (HQ.out _).mono ?_
  rintro e w1 ⟨rfl, hf⟩
  go_wp2
  go_ret
  exact ⟨rfl, ((Fresh.refl w).alloc _).trans hf⟩
theorem depth_any (m : M) (w : World) (h : m.At w) (hs : m.plain.size ≤ 1000000) : Calls Tryz.prog 17 #[m.val] w fun e w' => e = .returned (.int .i64 m.plain.depth) ∧ Fresh w w' := by
  cases hh : m.plain.holds with
  | false => exact depth_no m w hh
  | true => exact depth_yes m w h hs hh
end Go.Proofs.YthhdadfnkdjmkaaGreatDoor.v
