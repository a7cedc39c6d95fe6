/-
  The document's Depth.
-/
import Derived.Test.YtonakfkiidhebaaDoorAlike
namespace Go.Proofs.YtonakfkiidhebaaDoor
open Go.ChangeShapes Go.WideShapes Go.ChangeAt Go.RowKit
variable {w : World}

theorem depthL_take (l : List V) (k : Nat) (hk : k < l.length) : depthL (l.take (k + 1)) = max (depthL (l.take k)) l[k].depth := by
  rw [List.take_succ_eq_append_getElem hk, depthL_append]
  simp [depthL]
theorem depthL_take_le (l : List V) (k : Nat) : depthL (l.take k) ≤ depthL l := by
  have := depthL_append (l.take k) (l.drop k)
  rw [List.take_append_drop] at this
  omega
theorem prow_some {w : World} {a : Option Addr} {l : List (ByteArray × M)} (h : RowAt w a (pcells l)) (k : Nat) (hk : k < l.length) : ∃ g, a = some ⟨g, 0, none⟩ := by
  rcases h with ⟨_, e⟩ | ⟨g, e, _⟩
  · have := congrArg List.length e
    rw [pcells_length] at this; simp at this; omega
  · exact ⟨g, e⟩
theorem box6' {w : World} {b : Nat} {c0 c1 c2 c3 c4 c5 : Value} {T : TypeId} {z : Nat × Nat} (h : w.heap[b]? = some (.cells #[c0, c1, c2, c3, c4, c5] T z)) :
    w.cell? ⟨b, 0, none⟩ = some c0 ∧ w.cell? ⟨b, 1, none⟩ = some c1 ∧ w.cell? ⟨b, 2, none⟩ = some c2 ∧ w.cell? ⟨b, 3, none⟩ = some c3 ∧ w.cell? ⟨b, 4, none⟩ = some c4 ∧ w.cell? ⟨b, 5, none⟩ = some c5 :=
  ⟨cell_of_at h rfl, cell_of_at h rfl, cell_of_at h rfl, cell_of_at h rfl, cell_of_at h rfl, cell_of_at h rfl⟩
theorem rdepth_no (m : M) (w : World) (hh : m.plain.holds = false) : Calls Tryd.prog 12 #[m.val] w fun e w' => e = .returned (.int .i64 m.plain.depth) ∧ Fresh w w' := by
  rw [m.plain.depth_not hh]
  obtain ⟨k, f, n, s, la, lc, l, ka, kc, ks⟩ := m
  have hk : ¬ (k = 4 ∨ k = 5) := of_decide_eq_false hh
  have e4 : (k == 4) = false := by simp; omega
  have e5 : (k == 5) = false := by simp; omega
  clear hh hk
  dsimp only [M.val] at *
  generalize l.length = ln at *
  generalize ks.length = kn at *
  go_enter Tryd.func12, Tryd.ntmps12
  go_wp2
  go_ret
  exact ⟨rfl, (Fresh.refl w).alloc _⟩
set_option maxRecDepth 100000 in
set_option maxHeartbeats 1000000 in
theorem rdepth_list (f : Bool) (n : Int) (s : ByteArray) (la : Option Addr) (lc : Nat) (l : List M) (ka : Option Addr) (kc : Nat) (ks : List (ByteArray × M)) (w : World) (hl : RowAt w la (mcells l)) (ll : l.length ≤ 1000000) (hb : depthL (l.map M.plain) ≤ 1000000)
    (ih : ∀ x ∈ l, ∀ W, Fresh w W → Calls Tryd.prog 12 #[x.val] W fun e w' => e = .returned (.int .i64 x.plain.depth) ∧ Fresh W w') :
    Calls Tryd.prog 12 #[(M.mk 4 f n s la lc l ka kc ks).val] w fun e w' => e = .returned (.int .i64 ((depthL (l.map M.plain) + 1 : Nat) : Int)) ∧ Fresh w w' := by
  have HIH := Lib.hid ih
  have HR := Lib.hid hl
  have HTL : Hid (∀ j, depthL ((l.map M.plain).take j) ≤ depthL (l.map M.plain)) := fun j => depthL_take_le _ j
  clear ih hl
  dsimp only [M.val]
  generalize ks.length = kn at *
  go_enter Tryd.func12, Tryd.ntmps12
  go_wp2
  go_loopw [3, 4] (fun a3 a4 wr => ∃ j d : Nat, j ≤ l.length ∧ a3 = .int .i64 d ∧ a4 = .int .i64 j ∧ Hid (d = depthL ((l.map M.plain).take j)) ∧ Hid (Fresh (w.alloc (.cells #[.int .i64 4, .bool f, .int .i64 n, .string s, .slice la l.length lc, .slice ka kn kc] 33)) wr)) (fun _ a4 _ => l.length - (intOf a4).toNat)
  case atStart => exact ⟨0, 0, Nat.zero_le _, rfl, rfl, rfl, Fresh.refl _⟩
  case round =>
    obtain ⟨j, d, hj, rfl, rfl, HD, HW⟩ := hrel
    obtain ⟨b0, b1, b2, b3, b4, b5⟩ := box6' (HW.out.at (at_new w _))
    have hW : Fresh w wr := ((Fresh.refl w).alloc _).trans HW.out
    have HW2 := Lib.hid hW
    clear hW
    have hdb : d ≤ 1000000 := by have h1 : d = _ := HD.out; have := HTL.out j; omega
    by_cases hlt : j < l.length
    · obtain ⟨g, eg⟩ := row_some HR.out j hlt
      subst eg
      have hy := mrow_get (HR.out.move HW2.out) j hlt
      have hdt := depthL_take (l.map M.plain) j (by simpa using hlt)
      rw [List.getElem_map, ← (show d = _ from HD.out)] at hdt
      have HDT := Lib.hid hdt
      have hdy : l[j].plain.depth ≤ 1000000 := by have := HTL.out (j + 1); omega
      have HQ : Hid (Calls Tryd.prog 12 #[l[j].val] wr fun e w' => e = .returned (.int .i64 l[j].plain.depth) ∧ Fresh wr w') := HIH.out _ (List.getElem_mem _) wr HW2.out
      clear hdt
      generalize l[j] = y at *
      generalize y.plain.depth = dy at *
      obtain ⟨yk, yf, yn, ys, yla, ylc, yl, yka, ykc, yks⟩ := y
      obtain ⟨d0, d1, d2, d3, d4, d5⟩ := hy
      dsimp only [M.val] at HQ
      generalize yl.length = yln at *
      generalize yks.length = ykn at *
      by_cases hcmp : d < dy
      · have HM : Hid (dy = depthL ((l.map M.plain).take (j + 1))) := by rw [Hid, HDT.out]; omega
        go_wp2_with fail
        refine HQ.out.mono ?_
        rintro e w1 ⟨rfl, hf⟩
        have HF := Lib.hid (HW.out.trans hf)
        clear hf b0 b1 b2 b3 b4 b5 d0 d1 d2 d3 d4 d5
        go_wp2
        go_roundw
        case rel => exact ⟨j + 1, dy, by omega, rfl, by go_num, HM.out, HF.out⟩
        case measure => simp [intOf]; omega
      · have HM : Hid (d = depthL ((l.map M.plain).take (j + 1))) := by rw [Hid, HDT.out]; omega
        go_wp2_with fail
        refine HQ.out.mono ?_
        rintro e w1 ⟨rfl, hf⟩
        have HF := Lib.hid (HW.out.trans hf)
        clear hf b0 b1 b2 b3 b4 b5 d0 d1 d2 d3 d4 d5
        go_wp2
        go_roundw
        case rel => exact ⟨j + 1, d, by omega, rfl, by go_num, HM.out, HF.out⟩
        case measure => simp [intOf]; omega
    · obtain rfl : j = l.length := by omega
      have HE : Hid (depthL (l.map M.plain) = d) := by rw [Hid, HD.out, List.take_of_length_le (by simp)]
      go_wp2
      go_ret
      exact ⟨ret_int (by rw [HE.out]; rfl), HW2.out⟩
set_option maxRecDepth 100000 in
set_option maxHeartbeats 1000000 in
theorem rdepth_keys (f : Bool) (n : Int) (s : ByteArray) (la : Option Addr) (lc : Nat) (l : List M) (ka : Option Addr) (kc : Nat) (ks : List (ByteArray × M)) (w : World) (hl : RowAt w ka (pcells ks)) (ll : ks.length ≤ 1000000) (hb : depthL (ks.map fun p => p.2.plain) ≤ 1000000)
    (ih : ∀ x ∈ ks, ∀ W, Fresh w W → Calls Tryd.prog 12 #[x.2.val] W fun e w' => e = .returned (.int .i64 x.2.plain.depth) ∧ Fresh W w') :
    Calls Tryd.prog 12 #[(M.mk 5 f n s la lc l ka kc ks).val] w fun e w' => e = .returned (.int .i64 ((depthL (ks.map fun p => p.2.plain) + 1 : Nat) : Int)) ∧ Fresh w w' := by
  have HIH := Lib.hid ih
  have HR := Lib.hid hl
  have HTL : Hid (∀ j, depthL ((ks.map fun p => p.2.plain).take j) ≤ depthL (ks.map fun p => p.2.plain)) := fun j => depthL_take_le _ j
  clear ih hl
  dsimp only [M.val]
  generalize l.length = ln at *
  go_enter Tryd.func12, Tryd.ntmps12
  go_wp2
  go_loopw [3, 6] (fun a3 a4 wr => ∃ j d : Nat, j ≤ ks.length ∧ a3 = .int .i64 d ∧ a4 = .int .i64 j ∧ Hid (d = depthL ((ks.map fun p => p.2.plain).take j)) ∧ Hid (Fresh (w.alloc (.cells #[.int .i64 5, .bool f, .int .i64 n, .string s, .slice la ln lc, .slice ka ks.length kc] 33)) wr)) (fun _ a4 _ => ks.length - (intOf a4).toNat)
  case atStart => exact ⟨0, 0, Nat.zero_le _, rfl, rfl, rfl, Fresh.refl _⟩
  case round =>
    obtain ⟨j, d, hj, rfl, rfl, HD, HW⟩ := hrel
    obtain ⟨b0, b1, b2, b3, b4, b5⟩ := box6' (HW.out.at (at_new w _))
    have hW : Fresh w wr := ((Fresh.refl w).alloc _).trans HW.out
    have HW2 := Lib.hid hW
    clear hW
    have hdb : d ≤ 1000000 := by have h1 : d = _ := HD.out; have := HTL.out j; omega
    by_cases hlt : j < ks.length
    · obtain ⟨g, eg⟩ := prow_some HR.out j hlt
      subst eg
      obtain ⟨hnm, hy⟩ := prow_get (HR.out.move HW2.out) j hlt
      have hdt := depthL_take (ks.map fun p => p.2.plain) j (by simpa using hlt)
      rw [List.getElem_map, ← (show d = _ from HD.out)] at hdt
      have HDT := Lib.hid hdt
      have hdy : ks[j].2.plain.depth ≤ 1000000 := by have := HTL.out (j + 1); omega
      have HQ : Hid (Calls Tryd.prog 12 #[ks[j].2.val] wr fun e w' => e = .returned (.int .i64 ks[j].2.plain.depth) ∧ Fresh wr w') := HIH.out _ (List.getElem_mem _) wr HW2.out
      clear hdt
      generalize ks[j].2 = y at *
      generalize y.plain.depth = dy at *
      obtain ⟨yk, yf, yn, ys, yla, ylc, yl, yka, ykc, yks⟩ := y
      obtain ⟨d0, d1, d2, d3, d4, d5⟩ := hy
      dsimp only [M.val] at HQ
      generalize yl.length = yln at *
      generalize yks.length = ykn at *
      by_cases hcmp : d < dy
      · have HM : Hid (dy = depthL ((ks.map fun p => p.2.plain).take (j + 1))) := by rw [Hid, HDT.out]; omega
        go_wp2_with fail
        refine HQ.out.mono ?_
        rintro e w1 ⟨rfl, hf⟩
        have HF := Lib.hid (HW.out.trans hf)
        clear hf b0 b1 b2 b3 b4 b5 d0 d1 d2 d3 d4 d5
        go_wp2
        go_roundw
        case rel => exact ⟨j + 1, dy, by omega, rfl, by go_num, HM.out, HF.out⟩
        case measure => simp [intOf]; omega
      · have HM : Hid (d = depthL ((ks.map fun p => p.2.plain).take (j + 1))) := by rw [Hid, HDT.out]; omega
        go_wp2_with fail
        refine HQ.out.mono ?_
        rintro e w1 ⟨rfl, hf⟩
        have HF := Lib.hid (HW.out.trans hf)
        clear hf b0 b1 b2 b3 b4 b5 d0 d1 d2 d3 d4 d5
        go_wp2
        go_roundw
        case rel => exact ⟨j + 1, d, by omega, rfl, by go_num, HM.out, HF.out⟩
        case measure => simp [intOf]; omega
    · obtain rfl : j = ks.length := by omega
      have HE : Hid (depthL (ks.map fun p => p.2.plain) = d) := by rw [Hid, HD.out, List.take_of_length_le (by simp)]
      go_wp2
      go_ret
      exact ⟨ret_int (by rw [HE.out]; rfl), HW2.out⟩
theorem rdepth_all (N : Nat) : ∀ (m : M) (w : World), m.plain.size ≤ N → m.plain.size ≤ 1000000 → m.At w → Calls Tryd.prog 12 #[m.val] w fun e w' => e = .returned (.int .i64 m.plain.depth) ∧ Fresh w w' := by
  induction N with
  | zero => intro m w hN; have := m.plain.size_pos; omega
  | succ N ih =>
    intro m w hN hs hat
    cases hh : m.plain.holds with
    | false => exact rdepth_no m w hh
    | true =>
      have hd := m.plain.depth_size
      have hsz := size_inside m.plain
      rw [m.plain.depth_holds hh] at hd ⊢
      rw [plain_inside] at hd hsz ⊢
      have hin : ∀ x ∈ m.inside, ∀ W, Fresh w W → Calls Tryd.prog 12 #[x.val] W fun e w' => e = .returned (.int .i64 x.plain.depth) ∧ Fresh W w' := fun x hx W hf => by
        have := size_mem (List.mem_map_of_mem (f := M.plain) hx)
        exact ih x W (by omega) (by omega) ((hat.inside x hx).move hf)
      have hk : m.kind = 4 ∨ m.kind = 5 := by
        have := of_decide_eq_true hh
        rwa [plain_kind] at this
      obtain ⟨k, f, n, s, la, lc, l, ka, kc, ks⟩ := m
      obtain ⟨_, hl, hkk, ll, lk, _⟩ := hat.parts
      rcases hk with rfl | rfl
      · exact rdepth_list f n s la lc l ka kc ks w hl ll (by have : (M.mk 4 f n s la lc l ka kc ks).inside = l := rfl; rw [this] at hd; omega) hin
      · have hi : (M.mk 5 f n s la lc l ka kc ks).inside = ks.map (·.2) := rfl
        rw [hi, List.map_map] at hd ⊢
        rw [hi] at hin
        exact rdepth_keys f n s la lc l ka kc ks w hkk lk (by have : depthL (ks.map fun p => p.2.plain) + 1 ≤ _ := hd; omega) (fun x hx => hin x.2 (List.mem_map_of_mem (f := (·.2)) hx))
theorem rdepth_any (m : M) (w : World) (h : m.At w) (hs : m.plain.size ≤ 1000000) : Calls Tryd.prog 12 #[m.val] w fun e w' => e = .returned (.int .i64 m.plain.depth) ∧ Fresh w w' :=
  rdepth_all m.plain.size m w (Nat.le_refl _) hs h
end Go.Proofs.YtonakfkiidhebaaDoor
