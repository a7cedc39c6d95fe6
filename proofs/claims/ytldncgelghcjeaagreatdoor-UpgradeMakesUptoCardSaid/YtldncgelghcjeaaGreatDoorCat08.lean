/-
  Quote, by package utf and by the document.
-/
import Derived.Test.YtldncgelghcjeaaGreatDoorCat01
import Derived.Deep.DeepCutAuto
import Derived.Deep.CutRange
import Derived.Deep.CutBlock
import Derived.RegionTactic
import Derived.StillTailTactics
import Derived.Deep.RegionHeldLaw
import Derived.Deep.DrawnRows
set_option linter.unusedSimpArgs false
set_option linter.unusedVariables false
namespace Go.Proofs.YtldncgelghcjeaaGreatDoor
open Go.ChangeShapes Go.WideShapes Go.ChangeAt Go.RowKit
attribute [local go_sem ↓] Go.wp_at_zero Go.wp_at_succ
variable {w : World}

theorem idx_any (t : ByteArray) (x r : Int) (w : World) (h : Lib.indexByte t.data.toList x.toNat.toUInt8 = r) : Calls Tryz.prog 169 #[.string t, .int .u8 x] w fun e w' => e = .returned (.int .i64 r) ∧ w = w' := by
  refine (Any.strings_IndexByte Tryz.laysIndex t x w).mono ?_
  rintro e w' ⟨h1, h2⟩
  exact ⟨by rw [← h]; exact h1, h2.symm⟩
/-- What an append of the bytes m to a row of the bytes l leaves. -/
def Put (w : World) (B : Nat) (l m : List UInt8) (e : Ending) (w' : World) : Prop :=
  ∃ g cap, e = .returned (.slice (some ⟨g, 0, none⟩) (l.length + m.length) cap) ∧ Buf w' B (.slice (some ⟨g, 0, none⟩) (l.length + m.length) cap) (l ++ m) ∧ Below B w w'
theorem put_of {w w' : World} {B : Nat} {v : Value} {l m : List UInt8} {o : Obj} {g cap k : Nat} (hb : Buf w B v l) (hB : B ≤ w.heap.size) (hk : m.length = k)
    (hown : w'.ownsRow B 5 1 (.slice (some ⟨g, 0, none⟩) (l.length + k) cap) (l.length + k) (vals l ++ vals m)) (hgrow : (w.alloc o).grownBy w' v.ownBlock) :
    Put w B l m (.returned (.slice (some ⟨g, 0, none⟩) (l.length + k) cap)) w' := by
  subst hk
  exact ⟨g, cap, rfl, Buf.more hown rfl, ((Below.refl B w).alloc hB o).grown hgrow (by simp; omega) (fun k e => (hb.lt k e).1)⟩
theorem news_at (w : World) (cs : Array Value) (l : List UInt8) (h : cs.toList = vals l) : ∀ j u, (vals l)[j]? = some u → (w.alloc (.cells cs 5)).cell? ((⟨w.heap.size, 0, none⟩ : Addr).add j) = some u := by
  rw [← h]
  exact World.news_of_block (at_new w (.cells cs 5))
theorem put_drew {w w' : World} {B : Nat} {v : Value} {l m : List UInt8} {o : Obj} {g cap k : Nat} (hb : Buf w B v l) (hB : B ≤ w.heap.size) (hk : m.length = k)
    (hown : w'.ownsRow B 5 1 (.slice (some ⟨g, 0, none⟩) (l.length + k) cap) (l.length + k) (vals l ++ vals m)) (hgrow : (w.alloc o).drew.grownBy w' v.ownBlock) :
    Put w B l m (.returned (.slice (some ⟨g, 0, none⟩) (l.length + k) cap)) w' :=
  put_of hb hB hk hown (o := o) ⟨hgrow.os, hgrow.tape, hgrow.output, hgrow.size, hgrow.block⟩
theorem news_drew (w : World) (cs : Array Value) (l : List UInt8) (h : cs.toList = vals l) : ∀ j u, (vals l)[j]? = some u → (w.alloc (.cells cs 5)).drew.cell? ((⟨w.heap.size, 0, none⟩ : Addr).add j) = some u := news_at w cs l h
/-- What the walks below want of a row of bytes. -/
structure Rd (w : World) (B : Nat) (v : Value) (l : List UInt8) : Prop where
  buf : Buf w B v l
  low : B ≤ w.heap.size
  small : l.length ≤ 1000000
theorem Rd.m1 {w : World} {B : Nat} {v : Value} {l : List UInt8} (h : Rd w B v l) {k : Nat} (hk : k ≤ 6) : l.length + k ≤ maxLen := by have := h.small; unfold maxLen; omega
theorem Rd.m2 {w : World} {B : Nat} {v : Value} {l : List UInt8} (h : Rd w B v l) {k : Nat} (hk : k ≤ 6) : (l.length + k) * 1 ≤ 140737488355328 := by have := h.small; omega
theorem Rd.m4 {w : World} {B : Nat} {v : Value} {l : List UInt8} (h : Rd w B v l) {o : Obj} : B ≤ (w.alloc o).drew.heap.size := by show B ≤ (w.alloc o).heap.size; rw [World.size_alloc]; have := h.low; omega
theorem Rd.m3 {w : World} {B : Nat} {v : Value} {l : List UInt8} (h : Rd w B v l) {o : Obj} : B ≤ (w.alloc o).heap.size := by rw [World.size_alloc]; have := h.low; omega
set_option maxRecDepth 100000 in
set_option maxHeartbeats 4000000 in
theorem appq_0 (B : Nat) (v : Value) (l : List UInt8) (w : World) (h : Rd w B v l) : Calls Tryz.prog 148 #[v, .int .u8 0] w (Put w B l [92, 117, 48, 48, 48, 48]) := by
  obtain ⟨i0, hi, hz0, hz1, hz2⟩ := info_parts info5
  have H := Lib.hid h
  have hx := Lib.hid (show Lib.indexByte (⟨#[8, 12, 10, 13, 9]⟩ : ByteArray).data.toList (0 : Int).toNat.toUInt8 = -1 by decide)
  clear h
  have hbits : bits .and .u8 0 15 = 0 := by decide
  go_enter Tryz.func148, Tryz.ntmps148
  go_wp2_with (first | (go_at_call 169; refine (idx_any _ _ _ _ hx.out).mono ?_; rintro e w' ⟨rfl, rfl⟩))
  go_region_law ((refine step_append_lies _ (by rfl) _ _ 98 (by rfl) B 5 i0 (.int .u8 0) 1 1 Tryz.underlying98 hi hz0 hz1 hz2 (by rfl) (by decide) v l.length (vals l) (by rfl) (Buf.drew (H.out.buf.alloc _)) ⟨w.heap.size, 0, none⟩ 6 6 (vals [92, 117, 48, 48, 48, 48]) (by rfl) (by rfl) (news_drew w _ _ rfl) (vals_one _) (by decide) (H.out.m1 (by decide)) (H.out.m2 (by decide)) H.out.m4 (w.heap.size + 1) (by simp) ?_; intro g cap w1 hown hgrow hat hlt; have HP := Lib.hid (put_drew H.out.buf H.out.low rfl hown hgrow); clear hown hgrow hat hlt))
  all_goals
    go_wp2
    go_ret
    exact HP.out
set_option maxRecDepth 100000 in
set_option maxHeartbeats 4000000 in
theorem appq_1 (B : Nat) (v : Value) (l : List UInt8) (w : World) (h : Rd w B v l) : Calls Tryz.prog 148 #[v, .int .u8 1] w (Put w B l [92, 117, 48, 48, 48, 49]) := by
  obtain ⟨i0, hi, hz0, hz1, hz2⟩ := info_parts info5
  have H := Lib.hid h
  have hx := Lib.hid (show Lib.indexByte (⟨#[8, 12, 10, 13, 9]⟩ : ByteArray).data.toList (1 : Int).toNat.toUInt8 = -1 by decide)
  clear h
  have hbits : bits .and .u8 1 15 = 1 := by decide
  go_enter Tryz.func148, Tryz.ntmps148
  go_wp2_with (first | (go_at_call 169; refine (idx_any _ _ _ _ hx.out).mono ?_; rintro e w' ⟨rfl, rfl⟩))
  go_region_law ((refine step_append_lies _ (by rfl) _ _ 98 (by rfl) B 5 i0 (.int .u8 0) 1 1 Tryz.underlying98 hi hz0 hz1 hz2 (by rfl) (by decide) v l.length (vals l) (by rfl) (Buf.drew (H.out.buf.alloc _)) ⟨w.heap.size, 0, none⟩ 6 6 (vals [92, 117, 48, 48, 48, 49]) (by rfl) (by rfl) (news_drew w _ _ rfl) (vals_one _) (by decide) (H.out.m1 (by decide)) (H.out.m2 (by decide)) H.out.m4 (w.heap.size + 1) (by simp) ?_; intro g cap w1 hown hgrow hat hlt; have HP := Lib.hid (put_drew H.out.buf H.out.low rfl hown hgrow); clear hown hgrow hat hlt))
  all_goals
    go_wp2
    go_ret
    exact HP.out
set_option maxRecDepth 100000 in
set_option maxHeartbeats 4000000 in
theorem appq_2 (B : Nat) (v : Value) (l : List UInt8) (w : World) (h : Rd w B v l) : Calls Tryz.prog 148 #[v, .int .u8 2] w (Put w B l [92, 117, 48, 48, 48, 50]) := by
  obtain ⟨i0, hi, hz0, hz1, hz2⟩ := info_parts info5
  have H := Lib.hid h
  have hx := Lib.hid (show Lib.indexByte (⟨#[8, 12, 10, 13, 9]⟩ : ByteArray).data.toList (2 : Int).toNat.toUInt8 = -1 by decide)
  clear h
  have hbits : bits .and .u8 2 15 = 2 := by decide
  go_enter Tryz.func148, Tryz.ntmps148
  go_wp2_with (first | (go_at_call 169; refine (idx_any _ _ _ _ hx.out).mono ?_; rintro e w' ⟨rfl, rfl⟩))
  go_region_law ((refine step_append_lies _ (by rfl) _ _ 98 (by rfl) B 5 i0 (.int .u8 0) 1 1 Tryz.underlying98 hi hz0 hz1 hz2 (by rfl) (by decide) v l.length (vals l) (by rfl) (Buf.drew (H.out.buf.alloc _)) ⟨w.heap.size, 0, none⟩ 6 6 (vals [92, 117, 48, 48, 48, 50]) (by rfl) (by rfl) (news_drew w _ _ rfl) (vals_one _) (by decide) (H.out.m1 (by decide)) (H.out.m2 (by decide)) H.out.m4 (w.heap.size + 1) (by simp) ?_; intro g cap w1 hown hgrow hat hlt; have HP := Lib.hid (put_drew H.out.buf H.out.low rfl hown hgrow); clear hown hgrow hat hlt))
  all_goals
    go_wp2
    go_ret
    exact HP.out
set_option maxRecDepth 100000 in
set_option maxHeartbeats 4000000 in
theorem appq_3 (B : Nat) (v : Value) (l : List UInt8) (w : World) (h : Rd w B v l) : Calls Tryz.prog 148 #[v, .int .u8 3] w (Put w B l [92, 117, 48, 48, 48, 51]) := by
  obtain ⟨i0, hi, hz0, hz1, hz2⟩ := info_parts info5
  have H := Lib.hid h
  have hx := Lib.hid (show Lib.indexByte (⟨#[8, 12, 10, 13, 9]⟩ : ByteArray).data.toList (3 : Int).toNat.toUInt8 = -1 by decide)
  clear h
  have hbits : bits .and .u8 3 15 = 3 := by decide
  go_enter Tryz.func148, Tryz.ntmps148
  go_wp2_with (first | (go_at_call 169; refine (idx_any _ _ _ _ hx.out).mono ?_; rintro e w' ⟨rfl, rfl⟩))
  go_region_law ((refine step_append_lies _ (by rfl) _ _ 98 (by rfl) B 5 i0 (.int .u8 0) 1 1 Tryz.underlying98 hi hz0 hz1 hz2 (by rfl) (by decide) v l.length (vals l) (by rfl) (Buf.drew (H.out.buf.alloc _)) ⟨w.heap.size, 0, none⟩ 6 6 (vals [92, 117, 48, 48, 48, 51]) (by rfl) (by rfl) (news_drew w _ _ rfl) (vals_one _) (by decide) (H.out.m1 (by decide)) (H.out.m2 (by decide)) H.out.m4 (w.heap.size + 1) (by simp) ?_; intro g cap w1 hown hgrow hat hlt; have HP := Lib.hid (put_drew H.out.buf H.out.low rfl hown hgrow); clear hown hgrow hat hlt))
  all_goals
    go_wp2
    go_ret
    exact HP.out
set_option maxRecDepth 100000 in
set_option maxHeartbeats 4000000 in
theorem appq_4 (B : Nat) (v : Value) (l : List UInt8) (w : World) (h : Rd w B v l) : Calls Tryz.prog 148 #[v, .int .u8 4] w (Put w B l [92, 117, 48, 48, 48, 52]) := by
  obtain ⟨i0, hi, hz0, hz1, hz2⟩ := info_parts info5
  have H := Lib.hid h
  have hx := Lib.hid (show Lib.indexByte (⟨#[8, 12, 10, 13, 9]⟩ : ByteArray).data.toList (4 : Int).toNat.toUInt8 = -1 by decide)
  clear h
  have hbits : bits .and .u8 4 15 = 4 := by decide
  go_enter Tryz.func148, Tryz.ntmps148
  go_wp2_with (first | (go_at_call 169; refine (idx_any _ _ _ _ hx.out).mono ?_; rintro e w' ⟨rfl, rfl⟩))
  go_region_law ((refine step_append_lies _ (by rfl) _ _ 98 (by rfl) B 5 i0 (.int .u8 0) 1 1 Tryz.underlying98 hi hz0 hz1 hz2 (by rfl) (by decide) v l.length (vals l) (by rfl) (Buf.drew (H.out.buf.alloc _)) ⟨w.heap.size, 0, none⟩ 6 6 (vals [92, 117, 48, 48, 48, 52]) (by rfl) (by rfl) (news_drew w _ _ rfl) (vals_one _) (by decide) (H.out.m1 (by decide)) (H.out.m2 (by decide)) H.out.m4 (w.heap.size + 1) (by simp) ?_; intro g cap w1 hown hgrow hat hlt; have HP := Lib.hid (put_drew H.out.buf H.out.low rfl hown hgrow); clear hown hgrow hat hlt))
  all_goals
    go_wp2
    go_ret
    exact HP.out
set_option maxRecDepth 100000 in
set_option maxHeartbeats 4000000 in
theorem appq_5 (B : Nat) (v : Value) (l : List UInt8) (w : World) (h : Rd w B v l) : Calls Tryz.prog 148 #[v, .int .u8 5] w (Put w B l [92, 117, 48, 48, 48, 53]) := by
  obtain ⟨i0, hi, hz0, hz1, hz2⟩ := info_parts info5
  have H := Lib.hid h
  have hx := Lib.hid (show Lib.indexByte (⟨#[8, 12, 10, 13, 9]⟩ : ByteArray).data.toList (5 : Int).toNat.toUInt8 = -1 by decide)
  clear h
  have hbits : bits .and .u8 5 15 = 5 := by decide
  go_enter Tryz.func148, Tryz.ntmps148
  go_wp2_with (first | (go_at_call 169; refine (idx_any _ _ _ _ hx.out).mono ?_; rintro e w' ⟨rfl, rfl⟩))
  go_region_law ((refine step_append_lies _ (by rfl) _ _ 98 (by rfl) B 5 i0 (.int .u8 0) 1 1 Tryz.underlying98 hi hz0 hz1 hz2 (by rfl) (by decide) v l.length (vals l) (by rfl) (Buf.drew (H.out.buf.alloc _)) ⟨w.heap.size, 0, none⟩ 6 6 (vals [92, 117, 48, 48, 48, 53]) (by rfl) (by rfl) (news_drew w _ _ rfl) (vals_one _) (by decide) (H.out.m1 (by decide)) (H.out.m2 (by decide)) H.out.m4 (w.heap.size + 1) (by simp) ?_; intro g cap w1 hown hgrow hat hlt; have HP := Lib.hid (put_drew H.out.buf H.out.low rfl hown hgrow); clear hown hgrow hat hlt))
  all_goals
    go_wp2
    go_ret
    exact HP.out
set_option maxRecDepth 100000 in
set_option maxHeartbeats 4000000 in
theorem appq_6 (B : Nat) (v : Value) (l : List UInt8) (w : World) (h : Rd w B v l) : Calls Tryz.prog 148 #[v, .int .u8 6] w (Put w B l [92, 117, 48, 48, 48, 54]) := by
  obtain ⟨i0, hi, hz0, hz1, hz2⟩ := info_parts info5
  have H := Lib.hid h
  have hx := Lib.hid (show Lib.indexByte (⟨#[8, 12, 10, 13, 9]⟩ : ByteArray).data.toList (6 : Int).toNat.toUInt8 = -1 by decide)
  clear h
  have hbits : bits .and .u8 6 15 = 6 := by decide
  go_enter Tryz.func148, Tryz.ntmps148
  go_wp2_with (first | (go_at_call 169; refine (idx_any _ _ _ _ hx.out).mono ?_; rintro e w' ⟨rfl, rfl⟩))
  go_region_law ((refine step_append_lies _ (by rfl) _ _ 98 (by rfl) B 5 i0 (.int .u8 0) 1 1 Tryz.underlying98 hi hz0 hz1 hz2 (by rfl) (by decide) v l.length (vals l) (by rfl) (Buf.drew (H.out.buf.alloc _)) ⟨w.heap.size, 0, none⟩ 6 6 (vals [92, 117, 48, 48, 48, 54]) (by rfl) (by rfl) (news_drew w _ _ rfl) (vals_one _) (by decide) (H.out.m1 (by decide)) (H.out.m2 (by decide)) H.out.m4 (w.heap.size + 1) (by simp) ?_; intro g cap w1 hown hgrow hat hlt; have HP := Lib.hid (put_drew H.out.buf H.out.low rfl hown hgrow); clear hown hgrow hat hlt))
  all_goals
    go_wp2
    go_ret
    exact HP.out
set_option maxRecDepth 100000 in
set_option maxHeartbeats 4000000 in
theorem appq_7 (B : Nat) (v : Value) (l : List UInt8) (w : World) (h : Rd w B v l) : Calls Tryz.prog 148 #[v, .int .u8 7] w (Put w B l [92, 117, 48, 48, 48, 55]) := by
  obtain ⟨i0, hi, hz0, hz1, hz2⟩ := info_parts info5
  have H := Lib.hid h
  have hx := Lib.hid (show Lib.indexByte (⟨#[8, 12, 10, 13, 9]⟩ : ByteArray).data.toList (7 : Int).toNat.toUInt8 = -1 by decide)
  clear h
  have hbits : bits .and .u8 7 15 = 7 := by decide
  go_enter Tryz.func148, Tryz.ntmps148
  go_wp2_with (first | (go_at_call 169; refine (idx_any _ _ _ _ hx.out).mono ?_; rintro e w' ⟨rfl, rfl⟩))
  go_region_law ((refine step_append_lies _ (by rfl) _ _ 98 (by rfl) B 5 i0 (.int .u8 0) 1 1 Tryz.underlying98 hi hz0 hz1 hz2 (by rfl) (by decide) v l.length (vals l) (by rfl) (Buf.drew (H.out.buf.alloc _)) ⟨w.heap.size, 0, none⟩ 6 6 (vals [92, 117, 48, 48, 48, 55]) (by rfl) (by rfl) (news_drew w _ _ rfl) (vals_one _) (by decide) (H.out.m1 (by decide)) (H.out.m2 (by decide)) H.out.m4 (w.heap.size + 1) (by simp) ?_; intro g cap w1 hown hgrow hat hlt; have HP := Lib.hid (put_drew H.out.buf H.out.low rfl hown hgrow); clear hown hgrow hat hlt))
  all_goals
    go_wp2
    go_ret
    exact HP.out
set_option maxRecDepth 100000 in
set_option maxHeartbeats 4000000 in
theorem appq_8 (B : Nat) (v : Value) (l : List UInt8) (w : World) (h : Rd w B v l) : Calls Tryz.prog 148 #[v, .int .u8 8] w (Put w B l [92, 98]) := by
  obtain ⟨i0, hi, hz0, hz1, hz2⟩ := info_parts info5
  have H := Lib.hid h
  have hx := Lib.hid (show Lib.indexByte (⟨#[8, 12, 10, 13, 9]⟩ : ByteArray).data.toList (8 : Int).toNat.toUInt8 = 0 by decide)
  clear h
  go_enter Tryz.func148, Tryz.ntmps148
  go_wp2_with (first
    | (go_at_call 169; refine (idx_any _ _ _ _ hx.out).mono ?_; rintro e w' ⟨rfl, rfl⟩)
    | (at_builtin; refine wpList_append_lies _ rfl _ _ 98 rfl B 5 i0 (.int .u8 0) 1 1 Tryz.underlying98 hi hz0 hz1 hz2 rfl (by decide) v l.length (vals l) rfl (H.out.buf.alloc _) ⟨w.heap.size, 0, none⟩ 2 2 (vals [92, 98]) rfl rfl (news_at w _ _ rfl) (vals_one _) (by decide) (H.out.m1 (by decide)) (H.out.m2 (by decide)) H.out.m3 (w.heap.size + 1) (by simp) ?_; intro g cap w1 hown hgrow hat hlt; have HP := Lib.hid (put_of H.out.buf H.out.low rfl hown hgrow); clear hown hgrow hat hlt))
  go_ret
  exact HP.out
set_option maxRecDepth 100000 in
set_option maxHeartbeats 4000000 in
theorem appq_9 (B : Nat) (v : Value) (l : List UInt8) (w : World) (h : Rd w B v l) : Calls Tryz.prog 148 #[v, .int .u8 9] w (Put w B l [92, 116]) := by
  obtain ⟨i0, hi, hz0, hz1, hz2⟩ := info_parts info5
  have H := Lib.hid h
  have hx := Lib.hid (show Lib.indexByte (⟨#[8, 12, 10, 13, 9]⟩ : ByteArray).data.toList (9 : Int).toNat.toUInt8 = 4 by decide)
  clear h
  go_enter Tryz.func148, Tryz.ntmps148
  go_wp2_with (first
    | (go_at_call 169; refine (idx_any _ _ _ _ hx.out).mono ?_; rintro e w' ⟨rfl, rfl⟩)
    | (at_builtin; refine wpList_append_lies _ rfl _ _ 98 rfl B 5 i0 (.int .u8 0) 1 1 Tryz.underlying98 hi hz0 hz1 hz2 rfl (by decide) v l.length (vals l) rfl (H.out.buf.alloc _) ⟨w.heap.size, 0, none⟩ 2 2 (vals [92, 116]) rfl rfl (news_at w _ _ rfl) (vals_one _) (by decide) (H.out.m1 (by decide)) (H.out.m2 (by decide)) H.out.m3 (w.heap.size + 1) (by simp) ?_; intro g cap w1 hown hgrow hat hlt; have HP := Lib.hid (put_of H.out.buf H.out.low rfl hown hgrow); clear hown hgrow hat hlt))
  go_ret
  exact HP.out
set_option maxRecDepth 100000 in
set_option maxHeartbeats 4000000 in
theorem appq_10 (B : Nat) (v : Value) (l : List UInt8) (w : World) (h : Rd w B v l) : Calls Tryz.prog 148 #[v, .int .u8 10] w (Put w B l [92, 110]) := by
  obtain ⟨i0, hi, hz0, hz1, hz2⟩ := info_parts info5
  have H := Lib.hid h
  have hx := Lib.hid (show Lib.indexByte (⟨#[8, 12, 10, 13, 9]⟩ : ByteArray).data.toList (10 : Int).toNat.toUInt8 = 2 by decide)
  clear h
  go_enter Tryz.func148, Tryz.ntmps148
  go_wp2_with (first
    | (go_at_call 169; refine (idx_any _ _ _ _ hx.out).mono ?_; rintro e w' ⟨rfl, rfl⟩)
    | (at_builtin; refine wpList_append_lies _ rfl _ _ 98 rfl B 5 i0 (.int .u8 0) 1 1 Tryz.underlying98 hi hz0 hz1 hz2 rfl (by decide) v l.length (vals l) rfl (H.out.buf.alloc _) ⟨w.heap.size, 0, none⟩ 2 2 (vals [92, 110]) rfl rfl (news_at w _ _ rfl) (vals_one _) (by decide) (H.out.m1 (by decide)) (H.out.m2 (by decide)) H.out.m3 (w.heap.size + 1) (by simp) ?_; intro g cap w1 hown hgrow hat hlt; have HP := Lib.hid (put_of H.out.buf H.out.low rfl hown hgrow); clear hown hgrow hat hlt))
  go_ret
  exact HP.out
set_option maxRecDepth 100000 in
set_option maxHeartbeats 4000000 in
theorem appq_11 (B : Nat) (v : Value) (l : List UInt8) (w : World) (h : Rd w B v l) : Calls Tryz.prog 148 #[v, .int .u8 11] w (Put w B l [92, 117, 48, 48, 48, 98]) := by
  obtain ⟨i0, hi, hz0, hz1, hz2⟩ := info_parts info5
  have H := Lib.hid h
  have hx := Lib.hid (show Lib.indexByte (⟨#[8, 12, 10, 13, 9]⟩ : ByteArray).data.toList (11 : Int).toNat.toUInt8 = -1 by decide)
  clear h
  have hbits : bits .and .u8 11 15 = 11 := by decide
  go_enter Tryz.func148, Tryz.ntmps148
  go_wp2_with (first | (go_at_call 169; refine (idx_any _ _ _ _ hx.out).mono ?_; rintro e w' ⟨rfl, rfl⟩))
  go_region_law ((refine step_append_lies _ (by rfl) _ _ 98 (by rfl) B 5 i0 (.int .u8 0) 1 1 Tryz.underlying98 hi hz0 hz1 hz2 (by rfl) (by decide) v l.length (vals l) (by rfl) (Buf.drew (H.out.buf.alloc _)) ⟨w.heap.size, 0, none⟩ 6 6 (vals [92, 117, 48, 48, 48, 98]) (by rfl) (by rfl) (news_drew w _ _ rfl) (vals_one _) (by decide) (H.out.m1 (by decide)) (H.out.m2 (by decide)) H.out.m4 (w.heap.size + 1) (by simp) ?_; intro g cap w1 hown hgrow hat hlt; have HP := Lib.hid (put_drew H.out.buf H.out.low rfl hown hgrow); clear hown hgrow hat hlt))
  all_goals
    go_wp2
    go_ret
    exact HP.out
set_option maxRecDepth 100000 in
set_option maxHeartbeats 4000000 in
theorem appq_12 (B : Nat) (v : Value) (l : List UInt8) (w : World) (h : Rd w B v l) : Calls Tryz.prog 148 #[v, .int .u8 12] w (Put w B l [92, 102]) := by
  obtain ⟨i0, hi, hz0, hz1, hz2⟩ := info_parts info5
  have H := Lib.hid h
  have hx := Lib.hid (show Lib.indexByte (⟨#[8, 12, 10, 13, 9]⟩ : ByteArray).data.toList (12 : Int).toNat.toUInt8 = 1 by decide)
  clear h
  go_enter Tryz.func148, Tryz.ntmps148
  go_wp2_with (first
    | (go_at_call 169; refine (idx_any _ _ _ _ hx.out).mono ?_; rintro e w' ⟨rfl, rfl⟩)
    | (at_builtin; refine wpList_append_lies _ rfl _ _ 98 rfl B 5 i0 (.int .u8 0) 1 1 Tryz.underlying98 hi hz0 hz1 hz2 rfl (by decide) v l.length (vals l) rfl (H.out.buf.alloc _) ⟨w.heap.size, 0, none⟩ 2 2 (vals [92, 102]) rfl rfl (news_at w _ _ rfl) (vals_one _) (by decide) (H.out.m1 (by decide)) (H.out.m2 (by decide)) H.out.m3 (w.heap.size + 1) (by simp) ?_; intro g cap w1 hown hgrow hat hlt; have HP := Lib.hid (put_of H.out.buf H.out.low rfl hown hgrow); clear hown hgrow hat hlt))
  go_ret
  exact HP.out
set_option maxRecDepth 100000 in
set_option maxHeartbeats 4000000 in
theorem appq_13 (B : Nat) (v : Value) (l : List UInt8) (w : World) (h : Rd w B v l) : Calls Tryz.prog 148 #[v, .int .u8 13] w (Put w B l [92, 114]) := by
  obtain ⟨i0, hi, hz0, hz1, hz2⟩ := info_parts info5
  have H := Lib.hid h
  have hx := Lib.hid (show Lib.indexByte (⟨#[8, 12, 10, 13, 9]⟩ : ByteArray).data.toList (13 : Int).toNat.toUInt8 = 3 by decide)
  clear h
  go_enter Tryz.func148, Tryz.ntmps148
  go_wp2_with (first
    | (go_at_call 169; refine (idx_any _ _ _ _ hx.out).mono ?_; rintro e w' ⟨rfl, rfl⟩)
    | (at_builtin; refine wpList_append_lies _ rfl _ _ 98 rfl B 5 i0 (.int .u8 0) 1 1 Tryz.underlying98 hi hz0 hz1 hz2 rfl (by decide) v l.length (vals l) rfl (H.out.buf.alloc _) ⟨w.heap.size, 0, none⟩ 2 2 (vals [92, 114]) rfl rfl (news_at w _ _ rfl) (vals_one _) (by decide) (H.out.m1 (by decide)) (H.out.m2 (by decide)) H.out.m3 (w.heap.size + 1) (by simp) ?_; intro g cap w1 hown hgrow hat hlt; have HP := Lib.hid (put_of H.out.buf H.out.low rfl hown hgrow); clear hown hgrow hat hlt))
  go_ret
  exact HP.out
set_option maxRecDepth 100000 in
set_option maxHeartbeats 4000000 in
theorem appq_14 (B : Nat) (v : Value) (l : List UInt8) (w : World) (h : Rd w B v l) : Calls Tryz.prog 148 #[v, .int .u8 14] w (Put w B l [92, 117, 48, 48, 48, 101]) := by
  obtain ⟨i0, hi, hz0, hz1, hz2⟩ := info_parts info5
  have H := Lib.hid h
  have hx := Lib.hid (show Lib.indexByte (⟨#[8, 12, 10, 13, 9]⟩ : ByteArray).data.toList (14 : Int).toNat.toUInt8 = -1 by decide)
  clear h
  have hbits : bits .and .u8 14 15 = 14 := by decide
  go_enter Tryz.func148, Tryz.ntmps148
  go_wp2_with (first | (go_at_call 169; refine (idx_any _ _ _ _ hx.out).mono ?_; rintro e w' ⟨rfl, rfl⟩))
  go_region_law ((refine step_append_lies _ (by rfl) _ _ 98 (by rfl) B 5 i0 (.int .u8 0) 1 1 Tryz.underlying98 hi hz0 hz1 hz2 (by rfl) (by decide) v l.length (vals l) (by rfl) (Buf.drew (H.out.buf.alloc _)) ⟨w.heap.size, 0, none⟩ 6 6 (vals [92, 117, 48, 48, 48, 101]) (by rfl) (by rfl) (news_drew w _ _ rfl) (vals_one _) (by decide) (H.out.m1 (by decide)) (H.out.m2 (by decide)) H.out.m4 (w.heap.size + 1) (by simp) ?_; intro g cap w1 hown hgrow hat hlt; have HP := Lib.hid (put_drew H.out.buf H.out.low rfl hown hgrow); clear hown hgrow hat hlt))
  all_goals
    go_wp2
    go_ret
    exact HP.out
set_option maxRecDepth 100000 in
set_option maxHeartbeats 4000000 in
theorem appq_15 (B : Nat) (v : Value) (l : List UInt8) (w : World) (h : Rd w B v l) : Calls Tryz.prog 148 #[v, .int .u8 15] w (Put w B l [92, 117, 48, 48, 48, 102]) := by
  obtain ⟨i0, hi, hz0, hz1, hz2⟩ := info_parts info5
  have H := Lib.hid h
  have hx := Lib.hid (show Lib.indexByte (⟨#[8, 12, 10, 13, 9]⟩ : ByteArray).data.toList (15 : Int).toNat.toUInt8 = -1 by decide)
  clear h
  have hbits : bits .and .u8 15 15 = 15 := by decide
  go_enter Tryz.func148, Tryz.ntmps148
  go_wp2_with (first | (go_at_call 169; refine (idx_any _ _ _ _ hx.out).mono ?_; rintro e w' ⟨rfl, rfl⟩))
  go_region_law ((refine step_append_lies _ (by rfl) _ _ 98 (by rfl) B 5 i0 (.int .u8 0) 1 1 Tryz.underlying98 hi hz0 hz1 hz2 (by rfl) (by decide) v l.length (vals l) (by rfl) (Buf.drew (H.out.buf.alloc _)) ⟨w.heap.size, 0, none⟩ 6 6 (vals [92, 117, 48, 48, 48, 102]) (by rfl) (by rfl) (news_drew w _ _ rfl) (vals_one _) (by decide) (H.out.m1 (by decide)) (H.out.m2 (by decide)) H.out.m4 (w.heap.size + 1) (by simp) ?_; intro g cap w1 hown hgrow hat hlt; have HP := Lib.hid (put_drew H.out.buf H.out.low rfl hown hgrow); clear hown hgrow hat hlt))
  all_goals
    go_wp2
    go_ret
    exact HP.out
set_option maxRecDepth 100000 in
set_option maxHeartbeats 4000000 in
theorem appq_16 (B : Nat) (v : Value) (l : List UInt8) (w : World) (h : Rd w B v l) : Calls Tryz.prog 148 #[v, .int .u8 16] w (Put w B l [92, 117, 48, 48, 49, 48]) := by
  obtain ⟨i0, hi, hz0, hz1, hz2⟩ := info_parts info5
  have H := Lib.hid h
  have hx := Lib.hid (show Lib.indexByte (⟨#[8, 12, 10, 13, 9]⟩ : ByteArray).data.toList (16 : Int).toNat.toUInt8 = -1 by decide)
  clear h
  have hbits : bits .and .u8 16 15 = 0 := by decide
  go_enter Tryz.func148, Tryz.ntmps148
  go_wp2_with (first | (go_at_call 169; refine (idx_any _ _ _ _ hx.out).mono ?_; rintro e w' ⟨rfl, rfl⟩))
  go_region_law ((refine step_append_lies _ (by rfl) _ _ 98 (by rfl) B 5 i0 (.int .u8 0) 1 1 Tryz.underlying98 hi hz0 hz1 hz2 (by rfl) (by decide) v l.length (vals l) (by rfl) (Buf.drew (H.out.buf.alloc _)) ⟨w.heap.size, 0, none⟩ 6 6 (vals [92, 117, 48, 48, 49, 48]) (by rfl) (by rfl) (news_drew w _ _ rfl) (vals_one _) (by decide) (H.out.m1 (by decide)) (H.out.m2 (by decide)) H.out.m4 (w.heap.size + 1) (by simp) ?_; intro g cap w1 hown hgrow hat hlt; have HP := Lib.hid (put_drew H.out.buf H.out.low rfl hown hgrow); clear hown hgrow hat hlt))
  all_goals
    go_wp2
    go_ret
    exact HP.out
set_option maxRecDepth 100000 in
set_option maxHeartbeats 4000000 in
theorem appq_17 (B : Nat) (v : Value) (l : List UInt8) (w : World) (h : Rd w B v l) : Calls Tryz.prog 148 #[v, .int .u8 17] w (Put w B l [92, 117, 48, 48, 49, 49]) := by
  obtain ⟨i0, hi, hz0, hz1, hz2⟩ := info_parts info5
  have H := Lib.hid h
  have hx := Lib.hid (show Lib.indexByte (⟨#[8, 12, 10, 13, 9]⟩ : ByteArray).data.toList (17 : Int).toNat.toUInt8 = -1 by decide)
  clear h
  have hbits : bits .and .u8 17 15 = 1 := by decide
  go_enter Tryz.func148, Tryz.ntmps148
  go_wp2_with (first | (go_at_call 169; refine (idx_any _ _ _ _ hx.out).mono ?_; rintro e w' ⟨rfl, rfl⟩))
  go_region_law ((refine step_append_lies _ (by rfl) _ _ 98 (by rfl) B 5 i0 (.int .u8 0) 1 1 Tryz.underlying98 hi hz0 hz1 hz2 (by rfl) (by decide) v l.length (vals l) (by rfl) (Buf.drew (H.out.buf.alloc _)) ⟨w.heap.size, 0, none⟩ 6 6 (vals [92, 117, 48, 48, 49, 49]) (by rfl) (by rfl) (news_drew w _ _ rfl) (vals_one _) (by decide) (H.out.m1 (by decide)) (H.out.m2 (by decide)) H.out.m4 (w.heap.size + 1) (by simp) ?_; intro g cap w1 hown hgrow hat hlt; have HP := Lib.hid (put_drew H.out.buf H.out.low rfl hown hgrow); clear hown hgrow hat hlt))
  all_goals
    go_wp2
    go_ret
    exact HP.out
set_option maxRecDepth 100000 in
set_option maxHeartbeats 4000000 in
theorem appq_18 (B : Nat) (v : Value) (l : List UInt8) (w : World) (h : Rd w B v l) : Calls Tryz.prog 148 #[v, .int .u8 18] w (Put w B l [92, 117, 48, 48, 49, 50]) := by
  obtain ⟨i0, hi, hz0, hz1, hz2⟩ := info_parts info5
  have H := Lib.hid h
  have hx := Lib.hid (show Lib.indexByte (⟨#[8, 12, 10, 13, 9]⟩ : ByteArray).data.toList (18 : Int).toNat.toUInt8 = -1 by decide)
  clear h
  have hbits : bits .and .u8 18 15 = 2 := by decide
  go_enter Tryz.func148, Tryz.ntmps148
  go_wp2_with (first | (go_at_call 169; refine (idx_any _ _ _ _ hx.out).mono ?_; rintro e w' ⟨rfl, rfl⟩))
  go_region_law ((refine step_append_lies _ (by rfl) _ _ 98 (by rfl) B 5 i0 (.int .u8 0) 1 1 Tryz.underlying98 hi hz0 hz1 hz2 (by rfl) (by decide) v l.length (vals l) (by rfl) (Buf.drew (H.out.buf.alloc _)) ⟨w.heap.size, 0, none⟩ 6 6 (vals [92, 117, 48, 48, 49, 50]) (by rfl) (by rfl) (news_drew w _ _ rfl) (vals_one _) (by decide) (H.out.m1 (by decide)) (H.out.m2 (by decide)) H.out.m4 (w.heap.size + 1) (by simp) ?_; intro g cap w1 hown hgrow hat hlt; have HP := Lib.hid (put_drew H.out.buf H.out.low rfl hown hgrow); clear hown hgrow hat hlt))
  all_goals
    go_wp2
    go_ret
    exact HP.out
set_option maxRecDepth 100000 in
set_option maxHeartbeats 4000000 in
theorem appq_19 (B : Nat) (v : Value) (l : List UInt8) (w : World) (h : Rd w B v l) : Calls Tryz.prog 148 #[v, .int .u8 19] w (Put w B l [92, 117, 48, 48, 49, 51]) := by
  obtain ⟨i0, hi, hz0, hz1, hz2⟩ := info_parts info5
  have H := Lib.hid h
  have hx := Lib.hid (show Lib.indexByte (⟨#[8, 12, 10, 13, 9]⟩ : ByteArray).data.toList (19 : Int).toNat.toUInt8 = -1 by decide)
  clear h
  have hbits : bits .and .u8 19 15 = 3 := by decide
  go_enter Tryz.func148, Tryz.ntmps148
  go_wp2_with (first | (go_at_call 169; refine (idx_any _ _ _ _ hx.out).mono ?_; rintro e w' ⟨rfl, rfl⟩))
  go_region_law ((refine step_append_lies _ (by rfl) _ _ 98 (by rfl) B 5 i0 (.int .u8 0) 1 1 Tryz.underlying98 hi hz0 hz1 hz2 (by rfl) (by decide) v l.length (vals l) (by rfl) (Buf.drew (H.out.buf.alloc _)) ⟨w.heap.size, 0, none⟩ 6 6 (vals [92, 117, 48, 48, 49, 51]) (by rfl) (by rfl) (news_drew w _ _ rfl) (vals_one _) (by decide) (H.out.m1 (by decide)) (H.out.m2 (by decide)) H.out.m4 (w.heap.size + 1) (by simp) ?_; intro g cap w1 hown hgrow hat hlt; have HP := Lib.hid (put_drew H.out.buf H.out.low rfl hown hgrow); clear hown hgrow hat hlt))
  all_goals
    go_wp2
    go_ret
    exact HP.out
set_option maxRecDepth 100000 in
set_option maxHeartbeats 4000000 in
theorem appq_20 (B : Nat) (v : Value) (l : List UInt8) (w : World) (h : Rd w B v l) : Calls Tryz.prog 148 #[v, .int .u8 20] w (Put w B l [92, 117, 48, 48, 49, 52]) := by
  obtain ⟨i0, hi, hz0, hz1, hz2⟩ := info_parts info5
  have H := Lib.hid h
  have hx := Lib.hid (show Lib.indexByte (⟨#[8, 12, 10, 13, 9]⟩ : ByteArray).data.toList (20 : Int).toNat.toUInt8 = -1 by decide)
  clear h
  have hbits : bits .and .u8 20 15 = 4 := by decide
  go_enter Tryz.func148, Tryz.ntmps148
  go_wp2_with (first | (go_at_call 169; refine (idx_any _ _ _ _ hx.out).mono ?_; rintro e w' ⟨rfl, rfl⟩))
  go_region_law ((refine step_append_lies _ (by rfl) _ _ 98 (by rfl) B 5 i0 (.int .u8 0) 1 1 Tryz.underlying98 hi hz0 hz1 hz2 (by rfl) (by decide) v l.length (vals l) (by rfl) (Buf.drew (H.out.buf.alloc _)) ⟨w.heap.size, 0, none⟩ 6 6 (vals [92, 117, 48, 48, 49, 52]) (by rfl) (by rfl) (news_drew w _ _ rfl) (vals_one _) (by decide) (H.out.m1 (by decide)) (H.out.m2 (by decide)) H.out.m4 (w.heap.size + 1) (by simp) ?_; intro g cap w1 hown hgrow hat hlt; have HP := Lib.hid (put_drew H.out.buf H.out.low rfl hown hgrow); clear hown hgrow hat hlt))
  all_goals
    go_wp2
    go_ret
    exact HP.out
set_option maxRecDepth 100000 in
set_option maxHeartbeats 4000000 in
theorem appq_21 (B : Nat) (v : Value) (l : List UInt8) (w : World) (h : Rd w B v l) : Calls Tryz.prog 148 #[v, .int .u8 21] w (Put w B l [92, 117, 48, 48, 49, 53]) := by
  obtain ⟨i0, hi, hz0, hz1, hz2⟩ := info_parts info5
  have H := Lib.hid h
  have hx := Lib.hid (show Lib.indexByte (⟨#[8, 12, 10, 13, 9]⟩ : ByteArray).data.toList (21 : Int).toNat.toUInt8 = -1 by decide)
  clear h
  have hbits : bits .and .u8 21 15 = 5 := by decide
  go_enter Tryz.func148, Tryz.ntmps148
  go_wp2_with (first | (go_at_call 169; refine (idx_any _ _ _ _ hx.out).mono ?_; rintro e w' ⟨rfl, rfl⟩))
  go_region_law ((refine step_append_lies _ (by rfl) _ _ 98 (by rfl) B 5 i0 (.int .u8 0) 1 1 Tryz.underlying98 hi hz0 hz1 hz2 (by rfl) (by decide) v l.length (vals l) (by rfl) (Buf.drew (H.out.buf.alloc _)) ⟨w.heap.size, 0, none⟩ 6 6 (vals [92, 117, 48, 48, 49, 53]) (by rfl) (by rfl) (news_drew w _ _ rfl) (vals_one _) (by decide) (H.out.m1 (by decide)) (H.out.m2 (by decide)) H.out.m4 (w.heap.size + 1) (by simp) ?_; intro g cap w1 hown hgrow hat hlt; have HP := Lib.hid (put_drew H.out.buf H.out.low rfl hown hgrow); clear hown hgrow hat hlt))
  all_goals
    go_wp2
    go_ret
    exact HP.out
set_option maxRecDepth 100000 in
set_option maxHeartbeats 4000000 in
theorem appq_22 (B : Nat) (v : Value) (l : List UInt8) (w : World) (h : Rd w B v l) : Calls Tryz.prog 148 #[v, .int .u8 22] w (Put w B l [92, 117, 48, 48, 49, 54]) := by
  obtain ⟨i0, hi, hz0, hz1, hz2⟩ := info_parts info5
  have H := Lib.hid h
  have hx := Lib.hid (show Lib.indexByte (⟨#[8, 12, 10, 13, 9]⟩ : ByteArray).data.toList (22 : Int).toNat.toUInt8 = -1 by decide)
  clear h
  have hbits : bits .and .u8 22 15 = 6 := by decide
  go_enter Tryz.func148, Tryz.ntmps148
  go_wp2_with (first | (go_at_call 169; refine (idx_any _ _ _ _ hx.out).mono ?_; rintro e w' ⟨rfl, rfl⟩))
  go_region_law ((refine step_append_lies _ (by rfl) _ _ 98 (by rfl) B 5 i0 (.int .u8 0) 1 1 Tryz.underlying98 hi hz0 hz1 hz2 (by rfl) (by decide) v l.length (vals l) (by rfl) (Buf.drew (H.out.buf.alloc _)) ⟨w.heap.size, 0, none⟩ 6 6 (vals [92, 117, 48, 48, 49, 54]) (by rfl) (by rfl) (news_drew w _ _ rfl) (vals_one _) (by decide) (H.out.m1 (by decide)) (H.out.m2 (by decide)) H.out.m4 (w.heap.size + 1) (by simp) ?_; intro g cap w1 hown hgrow hat hlt; have HP := Lib.hid (put_drew H.out.buf H.out.low rfl hown hgrow); clear hown hgrow hat hlt))
  all_goals
    go_wp2
    go_ret
    exact HP.out
set_option maxRecDepth 100000 in
set_option maxHeartbeats 4000000 in
theorem appq_23 (B : Nat) (v : Value) (l : List UInt8) (w : World) (h : Rd w B v l) : Calls Tryz.prog 148 #[v, .int .u8 23] w (Put w B l [92, 117, 48, 48, 49, 55]) := by
  obtain ⟨i0, hi, hz0, hz1, hz2⟩ := info_parts info5
  have H := Lib.hid h
  have hx := Lib.hid (show Lib.indexByte (⟨#[8, 12, 10, 13, 9]⟩ : ByteArray).data.toList (23 : Int).toNat.toUInt8 = -1 by decide)
  clear h
  have hbits : bits .and .u8 23 15 = 7 := by decide
  go_enter Tryz.func148, Tryz.ntmps148
  go_wp2_with (first | (go_at_call 169; refine (idx_any _ _ _ _ hx.out).mono ?_; rintro e w' ⟨rfl, rfl⟩))
  go_region_law ((refine step_append_lies _ (by rfl) _ _ 98 (by rfl) B 5 i0 (.int .u8 0) 1 1 Tryz.underlying98 hi hz0 hz1 hz2 (by rfl) (by decide) v l.length (vals l) (by rfl) (Buf.drew (H.out.buf.alloc _)) ⟨w.heap.size, 0, none⟩ 6 6 (vals [92, 117, 48, 48, 49, 55]) (by rfl) (by rfl) (news_drew w _ _ rfl) (vals_one _) (by decide) (H.out.m1 (by decide)) (H.out.m2 (by decide)) H.out.m4 (w.heap.size + 1) (by simp) ?_; intro g cap w1 hown hgrow hat hlt; have HP := Lib.hid (put_drew H.out.buf H.out.low rfl hown hgrow); clear hown hgrow hat hlt))
  all_goals
    go_wp2
    go_ret
    exact HP.out
set_option maxRecDepth 100000 in
set_option maxHeartbeats 4000000 in
theorem appq_24 (B : Nat) (v : Value) (l : List UInt8) (w : World) (h : Rd w B v l) : Calls Tryz.prog 148 #[v, .int .u8 24] w (Put w B l [92, 117, 48, 48, 49, 56]) := by
  obtain ⟨i0, hi, hz0, hz1, hz2⟩ := info_parts info5
  have H := Lib.hid h
  have hx := Lib.hid (show Lib.indexByte (⟨#[8, 12, 10, 13, 9]⟩ : ByteArray).data.toList (24 : Int).toNat.toUInt8 = -1 by decide)
  clear h
  have hbits : bits .and .u8 24 15 = 8 := by decide
  go_enter Tryz.func148, Tryz.ntmps148
  go_wp2_with (first | (go_at_call 169; refine (idx_any _ _ _ _ hx.out).mono ?_; rintro e w' ⟨rfl, rfl⟩))
  go_region_law ((refine step_append_lies _ (by rfl) _ _ 98 (by rfl) B 5 i0 (.int .u8 0) 1 1 Tryz.underlying98 hi hz0 hz1 hz2 (by rfl) (by decide) v l.length (vals l) (by rfl) (Buf.drew (H.out.buf.alloc _)) ⟨w.heap.size, 0, none⟩ 6 6 (vals [92, 117, 48, 48, 49, 56]) (by rfl) (by rfl) (news_drew w _ _ rfl) (vals_one _) (by decide) (H.out.m1 (by decide)) (H.out.m2 (by decide)) H.out.m4 (w.heap.size + 1) (by simp) ?_; intro g cap w1 hown hgrow hat hlt; have HP := Lib.hid (put_drew H.out.buf H.out.low rfl hown hgrow); clear hown hgrow hat hlt))
  all_goals
    go_wp2
    go_ret
    exact HP.out
set_option maxRecDepth 100000 in
set_option maxHeartbeats 4000000 in
theorem appq_25 (B : Nat) (v : Value) (l : List UInt8) (w : World) (h : Rd w B v l) : Calls Tryz.prog 148 #[v, .int .u8 25] w (Put w B l [92, 117, 48, 48, 49, 57]) := by
  obtain ⟨i0, hi, hz0, hz1, hz2⟩ := info_parts info5
  have H := Lib.hid h
  have hx := Lib.hid (show Lib.indexByte (⟨#[8, 12, 10, 13, 9]⟩ : ByteArray).data.toList (25 : Int).toNat.toUInt8 = -1 by decide)
  clear h
  have hbits : bits .and .u8 25 15 = 9 := by decide
  go_enter Tryz.func148, Tryz.ntmps148
  go_wp2_with (first | (go_at_call 169; refine (idx_any _ _ _ _ hx.out).mono ?_; rintro e w' ⟨rfl, rfl⟩))
  go_region_law ((refine step_append_lies _ (by rfl) _ _ 98 (by rfl) B 5 i0 (.int .u8 0) 1 1 Tryz.underlying98 hi hz0 hz1 hz2 (by rfl) (by decide) v l.length (vals l) (by rfl) (Buf.drew (H.out.buf.alloc _)) ⟨w.heap.size, 0, none⟩ 6 6 (vals [92, 117, 48, 48, 49, 57]) (by rfl) (by rfl) (news_drew w _ _ rfl) (vals_one _) (by decide) (H.out.m1 (by decide)) (H.out.m2 (by decide)) H.out.m4 (w.heap.size + 1) (by simp) ?_; intro g cap w1 hown hgrow hat hlt; have HP := Lib.hid (put_drew H.out.buf H.out.low rfl hown hgrow); clear hown hgrow hat hlt))
  all_goals
    go_wp2
    go_ret
    exact HP.out
set_option maxRecDepth 100000 in
set_option maxHeartbeats 4000000 in
theorem appq_26 (B : Nat) (v : Value) (l : List UInt8) (w : World) (h : Rd w B v l) : Calls Tryz.prog 148 #[v, .int .u8 26] w (Put w B l [92, 117, 48, 48, 49, 97]) := by
  obtain ⟨i0, hi, hz0, hz1, hz2⟩ := info_parts info5
  have H := Lib.hid h
  have hx := Lib.hid (show Lib.indexByte (⟨#[8, 12, 10, 13, 9]⟩ : ByteArray).data.toList (26 : Int).toNat.toUInt8 = -1 by decide)
  clear h
  have hbits : bits .and .u8 26 15 = 10 := by decide
  go_enter Tryz.func148, Tryz.ntmps148
  go_wp2_with (first | (go_at_call 169; refine (idx_any _ _ _ _ hx.out).mono ?_; rintro e w' ⟨rfl, rfl⟩))
  go_region_law ((refine step_append_lies _ (by rfl) _ _ 98 (by rfl) B 5 i0 (.int .u8 0) 1 1 Tryz.underlying98 hi hz0 hz1 hz2 (by rfl) (by decide) v l.length (vals l) (by rfl) (Buf.drew (H.out.buf.alloc _)) ⟨w.heap.size, 0, none⟩ 6 6 (vals [92, 117, 48, 48, 49, 97]) (by rfl) (by rfl) (news_drew w _ _ rfl) (vals_one _) (by decide) (H.out.m1 (by decide)) (H.out.m2 (by decide)) H.out.m4 (w.heap.size + 1) (by simp) ?_; intro g cap w1 hown hgrow hat hlt; have HP := Lib.hid (put_drew H.out.buf H.out.low rfl hown hgrow); clear hown hgrow hat hlt))
  all_goals
    go_wp2
    go_ret
    exact HP.out
set_option maxRecDepth 100000 in
set_option maxHeartbeats 4000000 in
theorem appq_27 (B : Nat) (v : Value) (l : List UInt8) (w : World) (h : Rd w B v l) : Calls Tryz.prog 148 #[v, .int .u8 27] w (Put w B l [92, 117, 48, 48, 49, 98]) := by
  obtain ⟨i0, hi, hz0, hz1, hz2⟩ := info_parts info5
  have H := Lib.hid h
  have hx := Lib.hid (show Lib.indexByte (⟨#[8, 12, 10, 13, 9]⟩ : ByteArray).data.toList (27 : Int).toNat.toUInt8 = -1 by decide)
  clear h
  have hbits : bits .and .u8 27 15 = 11 := by decide
  go_enter Tryz.func148, Tryz.ntmps148
  go_wp2_with (first | (go_at_call 169; refine (idx_any _ _ _ _ hx.out).mono ?_; rintro e w' ⟨rfl, rfl⟩))
  go_region_law ((refine step_append_lies _ (by rfl) _ _ 98 (by rfl) B 5 i0 (.int .u8 0) 1 1 Tryz.underlying98 hi hz0 hz1 hz2 (by rfl) (by decide) v l.length (vals l) (by rfl) (Buf.drew (H.out.buf.alloc _)) ⟨w.heap.size, 0, none⟩ 6 6 (vals [92, 117, 48, 48, 49, 98]) (by rfl) (by rfl) (news_drew w _ _ rfl) (vals_one _) (by decide) (H.out.m1 (by decide)) (H.out.m2 (by decide)) H.out.m4 (w.heap.size + 1) (by simp) ?_; intro g cap w1 hown hgrow hat hlt; have HP := Lib.hid (put_drew H.out.buf H.out.low rfl hown hgrow); clear hown hgrow hat hlt))
  all_goals
    go_wp2
    go_ret
    exact HP.out
set_option maxRecDepth 100000 in
set_option maxHeartbeats 4000000 in
theorem appq_28 (B : Nat) (v : Value) (l : List UInt8) (w : World) (h : Rd w B v l) : Calls Tryz.prog 148 #[v, .int .u8 28] w (Put w B l [92, 117, 48, 48, 49, 99]) := by
  obtain ⟨i0, hi, hz0, hz1, hz2⟩ := info_parts info5
  have H := Lib.hid h
  have hx := Lib.hid (show Lib.indexByte (⟨#[8, 12, 10, 13, 9]⟩ : ByteArray).data.toList (28 : Int).toNat.toUInt8 = -1 by decide)
  clear h
  have hbits : bits .and .u8 28 15 = 12 := by decide
  go_enter Tryz.func148, Tryz.ntmps148
  go_wp2_with (first | (go_at_call 169; refine (idx_any _ _ _ _ hx.out).mono ?_; rintro e w' ⟨rfl, rfl⟩))
  go_region_law ((refine step_append_lies _ (by rfl) _ _ 98 (by rfl) B 5 i0 (.int .u8 0) 1 1 Tryz.underlying98 hi hz0 hz1 hz2 (by rfl) (by decide) v l.length (vals l) (by rfl) (Buf.drew (H.out.buf.alloc _)) ⟨w.heap.size, 0, none⟩ 6 6 (vals [92, 117, 48, 48, 49, 99]) (by rfl) (by rfl) (news_drew w _ _ rfl) (vals_one _) (by decide) (H.out.m1 (by decide)) (H.out.m2 (by decide)) H.out.m4 (w.heap.size + 1) (by simp) ?_; intro g cap w1 hown hgrow hat hlt; have HP := Lib.hid (put_drew H.out.buf H.out.low rfl hown hgrow); clear hown hgrow hat hlt))
  all_goals
    go_wp2
    go_ret
    exact HP.out
set_option maxRecDepth 100000 in
set_option maxHeartbeats 4000000 in
theorem appq_29 (B : Nat) (v : Value) (l : List UInt8) (w : World) (h : Rd w B v l) : Calls Tryz.prog 148 #[v, .int .u8 29] w (Put w B l [92, 117, 48, 48, 49, 100]) := by
  obtain ⟨i0, hi, hz0, hz1, hz2⟩ := info_parts info5
  have H := Lib.hid h
  have hx := Lib.hid (show Lib.indexByte (⟨#[8, 12, 10, 13, 9]⟩ : ByteArray).data.toList (29 : Int).toNat.toUInt8 = -1 by decide)
  clear h
  have hbits : bits .and .u8 29 15 = 13 := by decide
  go_enter Tryz.func148, Tryz.ntmps148
  go_wp2_with (first | (go_at_call 169; refine (idx_any _ _ _ _ hx.out).mono ?_; rintro e w' ⟨rfl, rfl⟩))
  go_region_law ((refine step_append_lies _ (by rfl) _ _ 98 (by rfl) B 5 i0 (.int .u8 0) 1 1 Tryz.underlying98 hi hz0 hz1 hz2 (by rfl) (by decide) v l.length (vals l) (by rfl) (Buf.drew (H.out.buf.alloc _)) ⟨w.heap.size, 0, none⟩ 6 6 (vals [92, 117, 48, 48, 49, 100]) (by rfl) (by rfl) (news_drew w _ _ rfl) (vals_one _) (by decide) (H.out.m1 (by decide)) (H.out.m2 (by decide)) H.out.m4 (w.heap.size + 1) (by simp) ?_; intro g cap w1 hown hgrow hat hlt; have HP := Lib.hid (put_drew H.out.buf H.out.low rfl hown hgrow); clear hown hgrow hat hlt))
  all_goals
    go_wp2
    go_ret
    exact HP.out
set_option maxRecDepth 100000 in
set_option maxHeartbeats 4000000 in
theorem appq_30 (B : Nat) (v : Value) (l : List UInt8) (w : World) (h : Rd w B v l) : Calls Tryz.prog 148 #[v, .int .u8 30] w (Put w B l [92, 117, 48, 48, 49, 101]) := by
  obtain ⟨i0, hi, hz0, hz1, hz2⟩ := info_parts info5
  have H := Lib.hid h
  have hx := Lib.hid (show Lib.indexByte (⟨#[8, 12, 10, 13, 9]⟩ : ByteArray).data.toList (30 : Int).toNat.toUInt8 = -1 by decide)
  clear h
  have hbits : bits .and .u8 30 15 = 14 := by decide
  go_enter Tryz.func148, Tryz.ntmps148
  go_wp2_with (first | (go_at_call 169; refine (idx_any _ _ _ _ hx.out).mono ?_; rintro e w' ⟨rfl, rfl⟩))
  go_region_law ((refine step_append_lies _ (by rfl) _ _ 98 (by rfl) B 5 i0 (.int .u8 0) 1 1 Tryz.underlying98 hi hz0 hz1 hz2 (by rfl) (by decide) v l.length (vals l) (by rfl) (Buf.drew (H.out.buf.alloc _)) ⟨w.heap.size, 0, none⟩ 6 6 (vals [92, 117, 48, 48, 49, 101]) (by rfl) (by rfl) (news_drew w _ _ rfl) (vals_one _) (by decide) (H.out.m1 (by decide)) (H.out.m2 (by decide)) H.out.m4 (w.heap.size + 1) (by simp) ?_; intro g cap w1 hown hgrow hat hlt; have HP := Lib.hid (put_drew H.out.buf H.out.low rfl hown hgrow); clear hown hgrow hat hlt))
  all_goals
    go_wp2
    go_ret
    exact HP.out
set_option maxRecDepth 100000 in
set_option maxHeartbeats 4000000 in
theorem appq_31 (B : Nat) (v : Value) (l : List UInt8) (w : World) (h : Rd w B v l) : Calls Tryz.prog 148 #[v, .int .u8 31] w (Put w B l [92, 117, 48, 48, 49, 102]) := by
  obtain ⟨i0, hi, hz0, hz1, hz2⟩ := info_parts info5
  have H := Lib.hid h
  have hx := Lib.hid (show Lib.indexByte (⟨#[8, 12, 10, 13, 9]⟩ : ByteArray).data.toList (31 : Int).toNat.toUInt8 = -1 by decide)
  clear h
  have hbits : bits .and .u8 31 15 = 15 := by decide
  go_enter Tryz.func148, Tryz.ntmps148
  go_wp2_with (first | (go_at_call 169; refine (idx_any _ _ _ _ hx.out).mono ?_; rintro e w' ⟨rfl, rfl⟩))
  go_region_law ((refine step_append_lies _ (by rfl) _ _ 98 (by rfl) B 5 i0 (.int .u8 0) 1 1 Tryz.underlying98 hi hz0 hz1 hz2 (by rfl) (by decide) v l.length (vals l) (by rfl) (Buf.drew (H.out.buf.alloc _)) ⟨w.heap.size, 0, none⟩ 6 6 (vals [92, 117, 48, 48, 49, 102]) (by rfl) (by rfl) (news_drew w _ _ rfl) (vals_one _) (by decide) (H.out.m1 (by decide)) (H.out.m2 (by decide)) H.out.m4 (w.heap.size + 1) (by simp) ?_; intro g cap w1 hown hgrow hat hlt; have HP := Lib.hid (put_drew H.out.buf H.out.low rfl hown hgrow); clear hown hgrow hat hlt))
  all_goals
    go_wp2
    go_ret
    exact HP.out
end Go.Proofs.YtldncgelghcjeaaGreatDoor
