/-
  DERIVED: THE SHELF's CONTRACTS AT THIS DUMP, IN PLAIN WORDS (tools/lay-plain.mjs out of 'TrydShelf.lean', which tools/lay-shelf.mjs wrote): THE SAME DECLARATIONS UNDER THE SAME NAMES: 'import', 'namespace', 'open', 'def', 'theorem' AND NOTHING ELSE: no command of the shelf's: FOR A HAND-IN. Each laying: the table of numbers ('.._ren') and one theorem, a field a fact of the dump's own or the kernel's comparison; each contract: ONE APPLICATION.
  Quote, by package utf and by the document.
-/
import Derived.Shelf.Small.Strs
import Derived.Shelf.Unicode.DecodeAny
import Derived.Shelf.Unicode.ValidAny
import Derived.Shelf.Utf8.AppendRunePlain
import Derived.Shelf.Strings.Search2
import Derived.Test.YtfhhmajkacjbgaaDoorProg
import Derived.Ground.NamesProg
import Derived.Test.YtfhhmajkacjbgaaDoorCat01
import Derived.Deep.DeepCutAuto
import Derived.Deep.CutRange
import Derived.Deep.CutBlock
import Derived.RegionTactic
import Derived.StillTailTactics
import Derived.Deep.RegionHeldLaw
import Derived.Deep.DrawnRows
namespace Go.Proofs
open Go.Shelf
def Tryd.laysIndex_ren : Go.Shelf.Ren := ⟨fun | 137 => 86 | 217 => 93 | 266 => 101 | n => n, fun | 9 => 9 | 5 => 5 | 3 => 3 | n => n, fun | n => n⟩
theorem Tryd.laysIndex : Go.Proofs.Lays.n137 Tryd.prog Tryd.laysIndex_ren := {
  mixed := by kernel_rfl
  f137 := Tryd.func86.trans (congrArg some (by kernel_rfl))
  f217 := Tryd.func93.trans (congrArg some (by kernel_rfl))
  f266 := Tryd.func101.trans (congrArg some (by kernel_rfl))
  t3 := Tryd.underlying3
  a3 := Tryd.isAgg3
  z3 := Tryd.sizeOf3
  v3 := Tryd.zeroValue3
  t5 := Tryd.underlying5
  a5 := Tryd.isAgg5
  z5 := Tryd.sizeOf5
  v5 := Tryd.zeroValue5
  t9 := Tryd.underlying9
  a9 := Tryd.isAgg9
  z9 := Tryd.sizeOf9
  v9 := Tryd.zeroValue9 }
def Tryd.laysDecode_ren : Go.Shelf.Ren := ⟨fun | 197 => 84 | 260 => 91 | n => n, fun | 9 => 9 | 21 => 21 | 3 => 3 | 4 => 4 | 5 => 5 | 105 => 112 | 119 => 123 | 0 => 0 | 46 => 115 | 139 => 126 | 138 => 125 | n => n, fun | 3 => 2 | 4 => 3 | n => n⟩
theorem Tryd.laysDecode : Go.Proofs.Lays.n197 Tryd.prog Tryd.laysDecode_ren := {
  mixed := by kernel_rfl
  f197 := Tryd.func84.trans (congrArg some (by kernel_rfl))
  f260 := Tryd.func91.trans (congrArg some (by kernel_rfl))
  t0 := Tryd.underlying0
  a0 := Tryd.isAgg0
  z0 := Tryd.sizeOf0
  v0 := Tryd.zeroValue0
  t3 := Tryd.underlying3
  a3 := Tryd.isAgg3
  z3 := Tryd.sizeOf3
  v3 := Tryd.zeroValue3
  t4 := Tryd.underlying4
  a4 := Tryd.isAgg4
  z4 := Tryd.sizeOf4
  v4 := Tryd.zeroValue4
  t5 := Tryd.underlying5
  a5 := Tryd.isAgg5
  z5 := Tryd.sizeOf5
  v5 := Tryd.zeroValue5
  t9 := Tryd.underlying9
  a9 := Tryd.isAgg9
  z9 := Tryd.sizeOf9
  v9 := Tryd.zeroValue9
  t21 := Tryd.underlying21
  a21 := Tryd.isAgg21
  z21 := Tryd.sizeOf21
  v21 := Tryd.zeroValue21
  t46 := Tryd.underlying115
  a46 := Tryd.isAgg115
  z46 := Tryd.sizeOf115
  v46 := Tryd.zeroValue115
  t105 := Tryd.underlying112
  a105 := Tryd.isAgg112
  z105 := Tryd.sizeOf112
  v105 := Tryd.zeroValue112
  t119 := Tryd.underlying123
  a119 := Tryd.isAgg123
  z119 := Tryd.sizeOf123
  t138 := Tryd.underlying125
  a138 := Tryd.isAgg125
  z138 := Tryd.sizeOf125
  v138 := Tryd.zeroValue125
  t139 := Tryd.underlying126
  a139 := Tryd.isAgg126
  z139 := Tryd.sizeOf126
  v139 := Tryd.zeroValue126
  g3 := by kernel_rfl
  g4 := by kernel_rfl }
def Tryd.laysValid_ren : Go.Shelf.Ren := ⟨fun | 196 => 92 | 259 => 100 | n => n, fun | 9 => 9 | 4 => 4 | 3 => 3 | 5 => 5 | 12 => 12 | 119 => 123 | 0 => 0 | 46 => 115 | 139 => 126 | 138 => 125 | 53 => 132 | n => n, fun | 3 => 2 | 4 => 3 | n => n⟩
theorem Tryd.laysValid : Go.Proofs.Lays.n196 Tryd.prog Tryd.laysValid_ren := {
  mixed := by kernel_rfl
  f196 := Tryd.func92.trans (congrArg some (by kernel_rfl))
  f259 := Tryd.func100.trans (congrArg some (by kernel_rfl))
  t0 := Tryd.underlying0
  a0 := Tryd.isAgg0
  z0 := Tryd.sizeOf0
  v0 := Tryd.zeroValue0
  t3 := Tryd.underlying3
  a3 := Tryd.isAgg3
  z3 := Tryd.sizeOf3
  v3 := Tryd.zeroValue3
  t4 := Tryd.underlying4
  a4 := Tryd.isAgg4
  z4 := Tryd.sizeOf4
  v4 := Tryd.zeroValue4
  t5 := Tryd.underlying5
  a5 := Tryd.isAgg5
  z5 := Tryd.sizeOf5
  v5 := Tryd.zeroValue5
  t9 := Tryd.underlying9
  a9 := Tryd.isAgg9
  z9 := Tryd.sizeOf9
  v9 := Tryd.zeroValue9
  t12 := Tryd.underlying12
  a12 := Tryd.isAgg12
  z12 := Tryd.sizeOf12
  v12 := Tryd.zeroValue12
  t46 := Tryd.underlying115
  a46 := Tryd.isAgg115
  z46 := Tryd.sizeOf115
  v46 := Tryd.zeroValue115
  t53 := Tryd.underlying132
  a53 := Tryd.isAgg132
  z53 := Tryd.sizeOf132
  v53 := Tryd.zeroValue132
  t119 := Tryd.underlying123
  a119 := Tryd.isAgg123
  z119 := Tryd.sizeOf123
  t138 := Tryd.underlying125
  a138 := Tryd.isAgg125
  z138 := Tryd.sizeOf125
  v138 := Tryd.zeroValue125
  t139 := Tryd.underlying126
  a139 := Tryd.isAgg126
  z139 := Tryd.sizeOf126
  v139 := Tryd.zeroValue126
  g3 := by kernel_rfl
  g4 := by kernel_rfl }
def Tryd.laysRune_ren : Go.Shelf.Ren := ⟨fun | 242 => 99 | 278 => 107 | n => n, fun | 37 => 101 | 21 => 21 | 51 => 131 | 4 => 4 | 5 => 5 | 46 => 115 | n => n, fun | n => n⟩
theorem Tryd.laysRune : Go.Proofs.Lays.n242 Tryd.prog Tryd.laysRune_ren := {
  mixed := by kernel_rfl
  f242 := Tryd.func99.trans (congrArg some (by kernel_rfl))
  f278 := Tryd.func107.trans (congrArg some (by kernel_rfl))
  t4 := Tryd.underlying4
  a4 := Tryd.isAgg4
  z4 := Tryd.sizeOf4
  v4 := Tryd.zeroValue4
  t5 := Tryd.underlying5
  a5 := Tryd.isAgg5
  z5 := Tryd.sizeOf5
  v5 := Tryd.zeroValue5
  t21 := Tryd.underlying21
  a21 := Tryd.isAgg21
  z21 := Tryd.sizeOf21
  v21 := Tryd.zeroValue21
  t37 := Tryd.underlying101
  a37 := Tryd.isAgg101
  z37 := Tryd.sizeOf101
  v37 := Tryd.zeroValue101
  t46 := Tryd.underlying115
  a46 := Tryd.isAgg115
  z46 := Tryd.sizeOf115
  v46 := Tryd.zeroValue115
  t51 := Tryd.underlying131
  a51 := Tryd.isAgg131
  z51 := Tryd.sizeOf131
  v51 := Tryd.zeroValue131 }
def Tryd.laysSub_ren : Go.Shelf.Ren := ⟨fun | 219 => 94 | 217 => 93 | 225 => 102 | 224 => 103 | 267 => 104 | 266 => 101 | 314 => 108 | n => n, fun | 9 => 9 | 3 => 3 | 4 => 4 | 5 => 5 | 46 => 115 | 146 => 133 | 51 => 131 | n => n, fun | 1 => 4 | n => n⟩
theorem Tryd.laysSub : Go.Proofs.Lays.n219 Tryd.prog Tryd.laysSub_ren := {
  mixed := by kernel_rfl
  f217 := Tryd.func93.trans (congrArg some (by kernel_rfl))
  f219 := Tryd.func94.trans (congrArg some (by kernel_rfl))
  f224 := Tryd.func103.trans (congrArg some (by kernel_rfl))
  f225 := Tryd.func102.trans (congrArg some (by kernel_rfl))
  f266 := Tryd.func101.trans (congrArg some (by kernel_rfl))
  f267 := Tryd.func104.trans (congrArg some (by kernel_rfl))
  f314 := Tryd.func108.trans (congrArg some (by kernel_rfl))
  t3 := Tryd.underlying3
  a3 := Tryd.isAgg3
  z3 := Tryd.sizeOf3
  v3 := Tryd.zeroValue3
  t4 := Tryd.underlying4
  a4 := Tryd.isAgg4
  z4 := Tryd.sizeOf4
  v4 := Tryd.zeroValue4
  t5 := Tryd.underlying5
  a5 := Tryd.isAgg5
  z5 := Tryd.sizeOf5
  v5 := Tryd.zeroValue5
  t9 := Tryd.underlying9
  a9 := Tryd.isAgg9
  z9 := Tryd.sizeOf9
  v9 := Tryd.zeroValue9
  t46 := Tryd.underlying115
  a46 := Tryd.isAgg115
  z46 := Tryd.sizeOf115
  v46 := Tryd.zeroValue115
  t51 := Tryd.underlying131
  a51 := Tryd.isAgg131
  z51 := Tryd.sizeOf131
  v51 := Tryd.zeroValue131
  t146 := Tryd.underlying133
  a146 := Tryd.isAgg133
  z146 := Tryd.sizeOf133
  v146 := Tryd.zeroValue133
  g1 := by kernel_rfl }
end Go.Proofs
namespace Go.Proofs.YtfhhmajkacjbgaaDoor
open Go.ChangeShapes Go.WideShapes Go.ChangeAt Go.RowKit
attribute [local go_sem ↓] Go.wp_at_zero Go.wp_at_succ
variable {w : World}

theorem idx_any (t : ByteArray) (x r : Int) (w : World) (h : Lib.indexByte t.data.toList x.toNat.toUInt8 = r) : Calls Tryd.prog 86 #[.string t, .int .u8 x] w fun e w' => e = .returned (.int .i64 r) ∧ w = w' := by
  refine (Any.strings_IndexByte Tryd.laysIndex t x w).mono ?_
  rintro e w' ⟨h1, h2⟩
  exact ⟨by rw [← h]; exact h1, h2.symm⟩
/-- What an append of the bytes m to a row of the bytes l leaves. -/
def Put (w : World) (B : Nat) (l m : List UInt8) (e : Ending) (w' : World) : Prop :=
  ∃ g cap, e = .returned (.slice (some ⟨g, 0, none⟩) (l.length + m.length) cap) ∧ Buf w' B (.slice (some ⟨g, 0, none⟩) (l.length + m.length) cap) (l ++ m) ∧ Below B w w'
theorem put_of {w w' : World} {B : Nat} {v : Value} {l m : List UInt8} {o : Obj} {g cap k : Nat} (hb : Buf w B v l) (hB : B ≤ w.heap.size) (hk : m.length = k)
    (hown : w'.ownsRow B 5 1 (.slice (some ⟨g, 0, none⟩) (l.length + k) cap) (l.length + k) (vals l ++ vals m)) (hgrow : (w.alloc o).grownBy w' v.ownBlock) :
    Put w B l m (.returned (.slice (some ⟨g, 0, none⟩) (l.length + k) cap)) w' := by
  subst hk
  exact ⟨g, cap, rfl, Buf.more hown rfl, ((Below.refl B w).alloc hB o).grown hgrow (by simp; omega) (fun k e => (hb.lt k e).1)⟩
theorem news_at (w : World) (cs : Array Value) (l : List UInt8) (h : cs.toList = vals l) : ∀ j u, (vals l)[j]? = some u → (w.alloc (.cells cs 5)).cell? ((⟨w.heap.size, 0, none⟩ : Addr).add j) = some u := by
  rw [← h]
  exact World.news_of_block (at_new w (.cells cs 5))
theorem put_drew {w w' : World} {B : Nat} {v : Value} {l m : List UInt8} {o : Obj} {g cap k : Nat} (hb : Buf w B v l) (hB : B ≤ w.heap.size) (hk : m.length = k)
    (hown : w'.ownsRow B 5 1 (.slice (some ⟨g, 0, none⟩) (l.length + k) cap) (l.length + k) (vals l ++ vals m)) (hgrow : (w.alloc o).drew.grownBy w' v.ownBlock) :
    Put w B l m (.returned (.slice (some ⟨g, 0, none⟩) (l.length + k) cap)) w' :=
  put_of hb hB hk hown (o := o) ⟨hgrow.os, hgrow.tape, hgrow.output, hgrow.size, hgrow.block⟩
theorem news_drew (w : World) (cs : Array Value) (l : List UInt8) (h : cs.toList = vals l) : ∀ j u, (vals l)[j]? = some u → (w.alloc (.cells cs 5)).drew.cell? ((⟨w.heap.size, 0, none⟩ : Addr).add j) = some u := news_at w cs l h
/-- What the walks below want of a row of bytes. -/
structure Rd (w : World) (B : Nat) (v : Value) (l : List UInt8) : Prop where
  buf : Buf w B v l
  low : B ≤ w.heap.size
  small : l.length ≤ 1000000
theorem Rd.m1 {w : World} {B : Nat} {v : Value} {l : List UInt8} (h : Rd w B v l) {k : Nat} (hk : k ≤ 6) : l.length + k ≤ maxLen := by have := h.small; unfold maxLen; omega
theorem Rd.m2 {w : World} {B : Nat} {v : Value} {l : List UInt8} (h : Rd w B v l) {k : Nat} (hk : k ≤ 6) : (l.length + k) * 1 ≤ 140737488355328 := by have := h.small; omega
theorem Rd.m4 {w : World} {B : Nat} {v : Value} {l : List UInt8} (h : Rd w B v l) {o : Obj} : B ≤ (w.alloc o).drew.heap.size := by show B ≤ (w.alloc o).heap.size; rw [World.size_alloc]; have := h.low; omega
theorem Rd.m3 {w : World} {B : Nat} {v : Value} {l : List UInt8} (h : Rd w B v l) {o : Obj} : B ≤ (w.alloc o).heap.size := by rw [World.size_alloc]; have := h.low; omega
set_option maxRecDepth 100000 in
set_option maxHeartbeats 4000000 in
theorem appq_0 (B : Nat) (v : Value) (l : List UInt8) (w : World) (h : Rd w B v l) : Calls Tryd.prog 71 #[v, .int .u8 0] w (Put w B l [92, 117, 48, 48, 48, 48]) := by
  obtain ⟨i0, hi, hz0, hz1, hz2⟩ := info_parts info5
  have H := Lib.hid h
  have hx := Lib.hid (show Lib.indexByte (⟨#[8, 12, 10, 13, 9]⟩ : ByteArray).data.toList (0 : Int).toNat.toUInt8 = -1 by decide)
  clear h
  have hbits : bits .and .u8 0 15 = 0 := by decide
  go_enter Tryd.func71, Tryd.ntmps71
  go_wp2_with (first | (go_at_call 86; refine (idx_any _ _ _ _ hx.out).mono ?_; rintro e w' ⟨rfl, rfl⟩))
  go_region_law ((refine step_append_lies _ (by rfl) _ _ 101 (by rfl) B 5 i0 (.int .u8 0) 1 1 Tryd.underlying101 hi hz0 hz1 hz2 (by rfl) (by decide) v l.length (vals l) (by rfl) (Buf.drew (H.out.buf.alloc _)) ⟨w.heap.size, 0, none⟩ 6 6 (vals [92, 117, 48, 48, 48, 48]) (by rfl) (by rfl) (news_drew w _ _ rfl) (vals_one _) (by decide) (H.out.m1 (by decide)) (H.out.m2 (by decide)) H.out.m4 (w.heap.size + 1) (by simp) ?_; intro g cap w1 hown hgrow hat hlt; have HP := Lib.hid (put_drew H.out.buf H.out.low rfl hown hgrow); clear hown hgrow hat hlt))
  all_goals
    go_wp2
    go_ret
    exact HP.out
set_option maxRecDepth 100000 in
set_option maxHeartbeats 4000000 in
theorem appq_1 (B : Nat) (v : Value) (l : List UInt8) (w : World) (h : Rd w B v l) : Calls Tryd.prog 71 #[v, .int .u8 1] w (Put w B l [92, 117, 48, 48, 48, 49]) := by
  obtain ⟨i0, hi, hz0, hz1, hz2⟩ := info_parts info5
  have H := Lib.hid h
  have hx := Lib.hid (show Lib.indexByte (⟨#[8, 12, 10, 13, 9]⟩ : ByteArray).data.toList (1 : Int).toNat.toUInt8 = -1 by decide)
  clear h
  have hbits : bits .and .u8 1 15 = 1 := by decide
  go_enter Tryd.func71, Tryd.ntmps71
  go_wp2_with (first | (go_at_call 86; refine (idx_any _ _ _ _ hx.out).mono ?_; rintro e w' ⟨rfl, rfl⟩))
  go_region_law ((refine step_append_lies _ (by rfl) _ _ 101 (by rfl) B 5 i0 (.int .u8 0) 1 1 Tryd.underlying101 hi hz0 hz1 hz2 (by rfl) (by decide) v l.length (vals l) (by rfl) (Buf.drew (H.out.buf.alloc _)) ⟨w.heap.size, 0, none⟩ 6 6 (vals [92, 117, 48, 48, 48, 49]) (by rfl) (by rfl) (news_drew w _ _ rfl) (vals_one _) (by decide) (H.out.m1 (by decide)) (H.out.m2 (by decide)) H.out.m4 (w.heap.size + 1) (by simp) ?_; intro g cap w1 hown hgrow hat hlt; have HP := Lib.hid (put_drew H.out.buf H.out.low rfl hown hgrow); clear hown hgrow hat hlt))
  all_goals
    go_wp2
    go_ret
    exact HP.out
set_option maxRecDepth 100000 in
set_option maxHeartbeats 4000000 in
theorem appq_2 (B : Nat) (v : Value) (l : List UInt8) (w : World) (h : Rd w B v l) : Calls Tryd.prog 71 #[v, .int .u8 2] w (Put w B l [92, 117, 48, 48, 48, 50]) := by
  obtain ⟨i0, hi, hz0, hz1, hz2⟩ := info_parts info5
  have H := Lib.hid h
  have hx := Lib.hid (show Lib.indexByte (⟨#[8, 12, 10, 13, 9]⟩ : ByteArray).data.toList (2 : Int).toNat.toUInt8 = -1 by decide)
  clear h
  have hbits : bits .and .u8 2 15 = 2 := by decide
  go_enter Tryd.func71, Tryd.ntmps71
  go_wp2_with (first | (go_at_call 86; refine (idx_any _ _ _ _ hx.out).mono ?_; rintro e w' ⟨rfl, rfl⟩))
  go_region_law ((refine step_append_lies _ (by rfl) _ _ 101 (by rfl) B 5 i0 (.int .u8 0) 1 1 Tryd.underlying101 hi hz0 hz1 hz2 (by rfl) (by decide) v l.length (vals l) (by rfl) (Buf.drew (H.out.buf.alloc _)) ⟨w.heap.size, 0, none⟩ 6 6 (vals [92, 117, 48, 48, 48, 50]) (by rfl) (by rfl) (news_drew w _ _ rfl) (vals_one _) (by decide) (H.out.m1 (by decide)) (H.out.m2 (by decide)) H.out.m4 (w.heap.size + 1) (by simp) ?_; intro g cap w1 hown hgrow hat hlt; have HP := Lib.hid (put_drew H.out.buf H.out.low rfl hown hgrow); clear hown hgrow hat hlt))
  all_goals
    go_wp2
    go_ret
    exact HP.out
set_option maxRecDepth 100000 in
set_option maxHeartbeats 4000000 in
theorem appq_3 (B : Nat) (v : Value) (l : List UInt8) (w : World) (h : Rd w B v l) : Calls Tryd.prog 71 #[v, .int .u8 3] w (Put w B l [92, 117, 48, 48, 48, 51]) := by
  obtain ⟨i0, hi, hz0, hz1, hz2⟩ := info_parts info5
  have H := Lib.hid h
  have hx := Lib.hid (show Lib.indexByte (⟨#[8, 12, 10, 13, 9]⟩ : ByteArray).data.toList (3 : Int).toNat.toUInt8 = -1 by decide)
  clear h
  have hbits : bits .and .u8 3 15 = 3 := by decide
  go_enter Tryd.func71, Tryd.ntmps71
  go_wp2_with (first | (go_at_call 86; refine (idx_any _ _ _ _ hx.out).mono ?_; rintro e w' ⟨rfl, rfl⟩))
  go_region_law ((refine step_append_lies _ (by rfl) _ _ 101 (by rfl) B 5 i0 (.int .u8 0) 1 1 Tryd.underlying101 hi hz0 hz1 hz2 (by rfl) (by decide) v l.length (vals l) (by rfl) (Buf.drew (H.out.buf.alloc _)) ⟨w.heap.size, 0, none⟩ 6 6 (vals [92, 117, 48, 48, 48, 51]) (by rfl) (by rfl) (news_drew w _ _ rfl) (vals_one _) (by decide) (H.out.m1 (by decide)) (H.out.m2 (by decide)) H.out.m4 (w.heap.size + 1) (by simp) ?_; intro g cap w1 hown hgrow hat hlt; have HP := Lib.hid (put_drew H.out.buf H.out.low rfl hown hgrow); clear hown hgrow hat hlt))
  all_goals
    go_wp2
    go_ret
    exact HP.out
set_option maxRecDepth 100000 in
set_option maxHeartbeats 4000000 in
theorem appq_4 (B : Nat) (v : Value) (l : List UInt8) (w : World) (h : Rd w B v l) : Calls Tryd.prog 71 #[v, .int .u8 4] w (Put w B l [92, 117, 48, 48, 48, 52]) := by
  obtain ⟨i0, hi, hz0, hz1, hz2⟩ := info_parts info5
  have H := Lib.hid h
  have hx := Lib.hid (show Lib.indexByte (⟨#[8, 12, 10, 13, 9]⟩ : ByteArray).data.toList (4 : Int).toNat.toUInt8 = -1 by decide)
  clear h
  have hbits : bits .and .u8 4 15 = 4 := by decide
  go_enter Tryd.func71, Tryd.ntmps71
  go_wp2_with (first | (go_at_call 86; refine (idx_any _ _ _ _ hx.out).mono ?_; rintro e w' ⟨rfl, rfl⟩))
  go_region_law ((refine step_append_lies _ (by rfl) _ _ 101 (by rfl) B 5 i0 (.int .u8 0) 1 1 Tryd.underlying101 hi hz0 hz1 hz2 (by rfl) (by decide) v l.length (vals l) (by rfl) (Buf.drew (H.out.buf.alloc _)) ⟨w.heap.size, 0, none⟩ 6 6 (vals [92, 117, 48, 48, 48, 52]) (by rfl) (by rfl) (news_drew w _ _ rfl) (vals_one _) (by decide) (H.out.m1 (by decide)) (H.out.m2 (by decide)) H.out.m4 (w.heap.size + 1) (by simp) ?_; intro g cap w1 hown hgrow hat hlt; have HP := Lib.hid (put_drew H.out.buf H.out.low rfl hown hgrow); clear hown hgrow hat hlt))
  all_goals
    go_wp2
    go_ret
    exact HP.out
set_option maxRecDepth 100000 in
set_option maxHeartbeats 4000000 in
theorem appq_5 (B : Nat) (v : Value) (l : List UInt8) (w : World) (h : Rd w B v l) : Calls Tryd.prog 71 #[v, .int .u8 5] w (Put w B l [92, 117, 48, 48, 48, 53]) := by
  obtain ⟨i0, hi, hz0, hz1, hz2⟩ := info_parts info5
  have H := Lib.hid h
  have hx := Lib.hid (show Lib.indexByte (⟨#[8, 12, 10, 13, 9]⟩ : ByteArray).data.toList (5 : Int).toNat.toUInt8 = -1 by decide)
  clear h
  have hbits : bits .and .u8 5 15 = 5 := by decide
  go_enter Tryd.func71, Tryd.ntmps71
  go_wp2_with (first | (go_at_call 86; refine (idx_any _ _ _ _ hx.out).mono ?_; rintro e w' ⟨rfl, rfl⟩))
  go_region_law ((refine step_append_lies _ (by rfl) _ _ 101 (by rfl) B 5 i0 (.int .u8 0) 1 1 Tryd.underlying101 hi hz0 hz1 hz2 (by rfl) (by decide) v l.length (vals l) (by rfl) (Buf.drew (H.out.buf.alloc _)) ⟨w.heap.size, 0, none⟩ 6 6 (vals [92, 117, 48, 48, 48, 53]) (by rfl) (by rfl) (news_drew w _ _ rfl) (vals_one _) (by decide) (H.out.m1 (by decide)) (H.out.m2 (by decide)) H.out.m4 (w.heap.size + 1) (by simp) ?_; intro g cap w1 hown hgrow hat hlt; have HP := Lib.hid (put_drew H.out.buf H.out.low rfl hown hgrow); clear hown hgrow hat hlt))
  all_goals
    go_wp2
    go_ret
    exact HP.out
set_option maxRecDepth 100000 in
set_option maxHeartbeats 4000000 in
theorem appq_6 (B : Nat) (v : Value) (l : List UInt8) (w : World) (h : Rd w B v l) : Calls Tryd.prog 71 #[v, .int .u8 6] w (Put w B l [92, 117, 48, 48, 48, 54]) := by
  obtain ⟨i0, hi, hz0, hz1, hz2⟩ := info_parts info5
  have H := Lib.hid h
  have hx := Lib.hid (show Lib.indexByte (⟨#[8, 12, 10, 13, 9]⟩ : ByteArray).data.toList (6 : Int).toNat.toUInt8 = -1 by decide)
  clear h
  have hbits : bits .and .u8 6 15 = 6 := by decide
  go_enter Tryd.func71, Tryd.ntmps71
  go_wp2_with (first | (go_at_call 86; refine (idx_any _ _ _ _ hx.out).mono ?_; rintro e w' ⟨rfl, rfl⟩))
  go_region_law ((refine step_append_lies _ (by rfl) _ _ 101 (by rfl) B 5 i0 (.int .u8 0) 1 1 Tryd.underlying101 hi hz0 hz1 hz2 (by rfl) (by decide) v l.length (vals l) (by rfl) (Buf.drew (H.out.buf.alloc _)) ⟨w.heap.size, 0, none⟩ 6 6 (vals [92, 117, 48, 48, 48, 54]) (by rfl) (by rfl) (news_drew w _ _ rfl) (vals_one _) (by decide) (H.out.m1 (by decide)) (H.out.m2 (by decide)) H.out.m4 (w.heap.size + 1) (by simp) ?_; intro g cap w1 hown hgrow hat hlt; have HP := Lib.hid (put_drew H.out.buf H.out.low rfl hown hgrow); clear hown hgrow hat hlt))
  all_goals
    go_wp2
    go_ret
    exact HP.out
set_option maxRecDepth 100000 in
set_option maxHeartbeats 4000000 in
theorem appq_7 (B : Nat) (v : Value) (l : List UInt8) (w : World) (h : Rd w B v l) : Calls Tryd.prog 71 #[v, .int .u8 7] w (Put w B l [92, 117, 48, 48, 48, 55]) := by
  obtain ⟨i0, hi, hz0, hz1, hz2⟩ := info_parts info5
  have H := Lib.hid h
  have hx := Lib.hid (show Lib.indexByte (⟨#[8, 12, 10, 13, 9]⟩ : ByteArray).data.toList (7 : Int).toNat.toUInt8 = -1 by decide)
  clear h
  have hbits : bits .and .u8 7 15 = 7 := by decide
  go_enter Tryd.func71, Tryd.ntmps71
  go_wp2_with (first | (go_at_call 86; refine (idx_any _ _ _ _ hx.out).mono ?_; rintro e w' ⟨rfl, rfl⟩))
  go_region_law ((refine step_append_lies _ (by rfl) _ _ 101 (by rfl) B 5 i0 (.int .u8 0) 1 1 Tryd.underlying101 hi hz0 hz1 hz2 (by rfl) (by decide) v l.length (vals l) (by rfl) (Buf.drew (H.out.buf.alloc _)) ⟨w.heap.size, 0, none⟩ 6 6 (vals [92, 117, 48, 48, 48, 55]) (by rfl) (by rfl) (news_drew w _ _ rfl) (vals_one _) (by decide) (H.out.m1 (by decide)) (H.out.m2 (by decide)) H.out.m4 (w.heap.size + 1) (by simp) ?_; intro g cap w1 hown hgrow hat hlt; have HP := Lib.hid (put_drew H.out.buf H.out.low rfl hown hgrow); clear hown hgrow hat hlt))
  all_goals
    go_wp2
    go_ret
    exact HP.out
set_option maxRecDepth 100000 in
set_option maxHeartbeats 4000000 in
theorem appq_8 (B : Nat) (v : Value) (l : List UInt8) (w : World) (h : Rd w B v l) : Calls Tryd.prog 71 #[v, .int .u8 8] w (Put w B l [92, 98]) := by
  obtain ⟨i0, hi, hz0, hz1, hz2⟩ := info_parts info5
  have H := Lib.hid h
  have hx := Lib.hid (show Lib.indexByte (⟨#[8, 12, 10, 13, 9]⟩ : ByteArray).data.toList (8 : Int).toNat.toUInt8 = 0 by decide)
  clear h
  go_enter Tryd.func71, Tryd.ntmps71
  go_wp2_with (first
    | (go_at_call 86; refine (idx_any _ _ _ _ hx.out).mono ?_; rintro e w' ⟨rfl, rfl⟩)
    | (at_builtin; refine wpList_append_lies _ rfl _ _ 101 rfl B 5 i0 (.int .u8 0) 1 1 Tryd.underlying101 hi hz0 hz1 hz2 rfl (by decide) v l.length (vals l) rfl (H.out.buf.alloc _) ⟨w.heap.size, 0, none⟩ 2 2 (vals [92, 98]) rfl rfl (news_at w _ _ rfl) (vals_one _) (by decide) (H.out.m1 (by decide)) (H.out.m2 (by decide)) H.out.m3 (w.heap.size + 1) (by simp) ?_; intro g cap w1 hown hgrow hat hlt; have HP := Lib.hid (put_of H.out.buf H.out.low rfl hown hgrow); clear hown hgrow hat hlt))
  go_ret
  exact HP.out
set_option maxRecDepth 100000 in
set_option maxHeartbeats 4000000 in
theorem appq_9 (B : Nat) (v : Value) (l : List UInt8) (w : World) (h : Rd w B v l) : Calls Tryd.prog 71 #[v, .int .u8 9] w (Put w B l [92, 116]) := by
  obtain ⟨i0, hi, hz0, hz1, hz2⟩ := info_parts info5
  have H := Lib.hid h
  have hx := Lib.hid (show Lib.indexByte (⟨#[8, 12, 10, 13, 9]⟩ : ByteArray).data.toList (9 : Int).toNat.toUInt8 = 4 by decide)
  clear h
  go_enter Tryd.func71, Tryd.ntmps71
  go_wp2_with (first
    | (go_at_call 86; refine (idx_any _ _ _ _ hx.out).mono ?_; rintro e w' ⟨rfl, rfl⟩)
    | (at_builtin; refine wpList_append_lies _ rfl _ _ 101 rfl B 5 i0 (.int .u8 0) 1 1 Tryd.underlying101 hi hz0 hz1 hz2 rfl (by decide) v l.length (vals l) rfl (H.out.buf.alloc _) ⟨w.heap.size, 0, none⟩ 2 2 (vals [92, 116]) rfl rfl (news_at w _ _ rfl) (vals_one _) (by decide) (H.out.m1 (by decide)) (H.out.m2 (by decide)) H.out.m3 (w.heap.size + 1) (by simp) ?_; intro g cap w1 hown hgrow hat hlt; have HP := Lib.hid (put_of H.out.buf H.out.low rfl hown hgrow); clear hown hgrow hat hlt))
  go_ret
  exact HP.out
set_option maxRecDepth 100000 in
set_option maxHeartbeats 4000000 in
theorem appq_10 (B : Nat) (v : Value) (l : List UInt8) (w : World) (h : Rd w B v l) : Calls Tryd.prog 71 #[v, .int .u8 10] w (Put w B l [92, 110]) := by
  obtain ⟨i0, hi, hz0, hz1, hz2⟩ := info_parts info5
  have H := Lib.hid h
  have hx := Lib.hid (show Lib.indexByte (⟨#[8, 12, 10, 13, 9]⟩ : ByteArray).data.toList (10 : Int).toNat.toUInt8 = 2 by decide)
  clear h
  go_enter Tryd.func71, Tryd.ntmps71
  go_wp2_with (first
    | (go_at_call 86; refine (idx_any _ _ _ _ hx.out).mono ?_; rintro e w' ⟨rfl, rfl⟩)
    | (at_builtin; refine wpList_append_lies _ rfl _ _ 101 rfl B 5 i0 (.int .u8 0) 1 1 Tryd.underlying101 hi hz0 hz1 hz2 rfl (by decide) v l.length (vals l) rfl (H.out.buf.alloc _) ⟨w.heap.size, 0, none⟩ 2 2 (vals [92, 110]) rfl rfl (news_at w _ _ rfl) (vals_one _) (by decide) (H.out.m1 (by decide)) (H.out.m2 (by decide)) H.out.m3 (w.heap.size + 1) (by simp) ?_; intro g cap w1 hown hgrow hat hlt; have HP := Lib.hid (put_of H.out.buf H.out.low rfl hown hgrow); clear hown hgrow hat hlt))
  go_ret
  exact HP.out
set_option maxRecDepth 100000 in
set_option maxHeartbeats 4000000 in
theorem appq_11 (B : Nat) (v : Value) (l : List UInt8) (w : World) (h : Rd w B v l) : Calls Tryd.prog 71 #[v, .int .u8 11] w (Put w B l [92, 117, 48, 48, 48, 98]) := by
  obtain ⟨i0, hi, hz0, hz1, hz2⟩ := info_parts info5
  have H := Lib.hid h
  have hx := Lib.hid (show Lib.indexByte (⟨#[8, 12, 10, 13, 9]⟩ : ByteArray).data.toList (11 : Int).toNat.toUInt8 = -1 by decide)
  clear h
  have hbits : bits .and .u8 11 15 = 11 := by decide
  go_enter Tryd.func71, Tryd.ntmps71
  go_wp2_with (first | (go_at_call 86; refine (idx_any _ _ _ _ hx.out).mono ?_; rintro e w' ⟨rfl, rfl⟩))
  go_region_law ((refine step_append_lies _ (by rfl) _ _ 101 (by rfl) B 5 i0 (.int .u8 0) 1 1 Tryd.underlying101 hi hz0 hz1 hz2 (by rfl) (by decide) v l.length (vals l) (by rfl) (Buf.drew (H.out.buf.alloc _)) ⟨w.heap.size, 0, none⟩ 6 6 (vals [92, 117, 48, 48, 48, 98]) (by rfl) (by rfl) (news_drew w _ _ rfl) (vals_one _) (by decide) (H.out.m1 (by decide)) (H.out.m2 (by decide)) H.out.m4 (w.heap.size + 1) (by simp) ?_; intro g cap w1 hown hgrow hat hlt; have HP := Lib.hid (put_drew H.out.buf H.out.low rfl hown hgrow); clear hown hgrow hat hlt))
  all_goals
    go_wp2
    go_ret
    exact HP.out
set_option maxRecDepth 100000 in
set_option maxHeartbeats 4000000 in
theorem appq_12 (B : Nat) (v : Value) (l : List UInt8) (w : World) (h : Rd w B v l) : Calls Tryd.prog 71 #[v, .int .u8 12] w (Put w B l [92, 102]) := by
  obtain ⟨i0, hi, hz0, hz1, hz2⟩ := info_parts info5
  have H := Lib.hid h
  have hx := Lib.hid (show Lib.indexByte (⟨#[8, 12, 10, 13, 9]⟩ : ByteArray).data.toList (12 : Int).toNat.toUInt8 = 1 by decide)
  clear h
  go_enter Tryd.func71, Tryd.ntmps71
  go_wp2_with (first
    | (go_at_call 86; refine (idx_any _ _ _ _ hx.out).mono ?_; rintro e w' ⟨rfl, rfl⟩)
    | (at_builtin; refine wpList_append_lies _ rfl _ _ 101 rfl B 5 i0 (.int .u8 0) 1 1 Tryd.underlying101 hi hz0 hz1 hz2 rfl (by decide) v l.length (vals l) rfl (H.out.buf.alloc _) ⟨w.heap.size, 0, none⟩ 2 2 (vals [92, 102]) rfl rfl (news_at w _ _ rfl) (vals_one _) (by decide) (H.out.m1 (by decide)) (H.out.m2 (by decide)) H.out.m3 (w.heap.size + 1) (by simp) ?_; intro g cap w1 hown hgrow hat hlt; have HP := Lib.hid (put_of H.out.buf H.out.low rfl hown hgrow); clear hown hgrow hat hlt))
  go_ret
  exact HP.out
set_option maxRecDepth 100000 in
set_option maxHeartbeats 4000000 in
theorem appq_13 (B : Nat) (v : Value) (l : List UInt8) (w : World) (h : Rd w B v l) : Calls Tryd.prog 71 #[v, .int .u8 13] w (Put w B l [92, 114]) := by
  obtain ⟨i0, hi, hz0, hz1, hz2⟩ := info_parts info5
  have H := Lib.hid h
  have hx := Lib.hid (show Lib.indexByte (⟨#[8, 12, 10, 13, 9]⟩ : ByteArray).data.toList (13 : Int).toNat.toUInt8 = 3 by decide)
  clear h
  go_enter Tryd.func71, Tryd.ntmps71
  go_wp2_with (first
    | (go_at_call 86; refine (idx_any _ _ _ _ hx.out).mono ?_; rintro e w' ⟨rfl, rfl⟩)
    | (at_builtin; refine wpList_append_lies _ rfl _ _ 101 rfl B 5 i0 (.int .u8 0) 1 1 Tryd.underlying101 hi hz0 hz1 hz2 rfl (by decide) v l.length (vals l) rfl (H.out.buf.alloc _) ⟨w.heap.size, 0, none⟩ 2 2 (vals [92, 114]) rfl rfl (news_at w _ _ rfl) (vals_one _) (by decide) (H.out.m1 (by decide)) (H.out.m2 (by decide)) H.out.m3 (w.heap.size + 1) (by simp) ?_; intro g cap w1 hown hgrow hat hlt; have HP := Lib.hid (put_of H.out.buf H.out.low rfl hown hgrow); clear hown hgrow hat hlt))
  go_ret
  exact HP.out
set_option maxRecDepth 100000 in
set_option maxHeartbeats 4000000 in
theorem appq_14 (B : Nat) (v : Value) (l : List UInt8) (w : World) (h : Rd w B v l) : Calls Tryd.prog 71 #[v, .int .u8 14] w (Put w B l [92, 117, 48, 48, 48, 101]) := by
  obtain ⟨i0, hi, hz0, hz1, hz2⟩ := info_parts info5
  have H := Lib.hid h
  have hx := Lib.hid (show Lib.indexByte (⟨#[8, 12, 10, 13, 9]⟩ : ByteArray).data.toList (14 : Int).toNat.toUInt8 = -1 by decide)
  clear h
  have hbits : bits .and .u8 14 15 = 14 := by decide
  go_enter Tryd.func71, Tryd.ntmps71
  go_wp2_with (first | (go_at_call 86; refine (idx_any _ _ _ _ hx.out).mono ?_; rintro e w' ⟨rfl, rfl⟩))
  go_region_law ((refine step_append_lies _ (by rfl) _ _ 101 (by rfl) B 5 i0 (.int .u8 0) 1 1 Tryd.underlying101 hi hz0 hz1 hz2 (by rfl) (by decide) v l.length (vals l) (by rfl) (Buf.drew (H.out.buf.alloc _)) ⟨w.heap.size, 0, none⟩ 6 6 (vals [92, 117, 48, 48, 48, 101]) (by rfl) (by rfl) (news_drew w _ _ rfl) (vals_one _) (by decide) (H.out.m1 (by decide)) (H.out.m2 (by decide)) H.out.m4 (w.heap.size + 1) (by simp) ?_; intro g cap w1 hown hgrow hat hlt; have HP := Lib.hid (put_drew H.out.buf H.out.low rfl hown hgrow); clear hown hgrow hat hlt))
  all_goals
    go_wp2
    go_ret
    exact HP.out
set_option maxRecDepth 100000 in
set_option maxHeartbeats 4000000 in
theorem appq_15 (B : Nat) (v : Value) (l : List UInt8) (w : World) (h : Rd w B v l) : Calls Tryd.prog 71 #[v, .int .u8 15] w (Put w B l [92, 117, 48, 48, 48, 102]) := by
  obtain ⟨i0, hi, hz0, hz1, hz2⟩ := info_parts info5
  have H := Lib.hid h
  have hx := Lib.hid (show Lib.indexByte (⟨#[8, 12, 10, 13, 9]⟩ : ByteArray).data.toList (15 : Int).toNat.toUInt8 = -1 by decide)
  clear h
  have hbits : bits .and .u8 15 15 = 15 := by decide
  go_enter Tryd.func71, Tryd.ntmps71
  go_wp2_with (first | (go_at_call 86; refine (idx_any _ _ _ _ hx.out).mono ?_; rintro e w' ⟨rfl, rfl⟩))
  go_region_law ((refine step_append_lies _ (by rfl) _ _ 101 (by rfl) B 5 i0 (.int .u8 0) 1 1 Tryd.underlying101 hi hz0 hz1 hz2 (by rfl) (by decide) v l.length (vals l) (by rfl) (Buf.drew (H.out.buf.alloc _)) ⟨w.heap.size, 0, none⟩ 6 6 (vals [92, 117, 48, 48, 48, 102]) (by rfl) (by rfl) (news_drew w _ _ rfl) (vals_one _) (by decide) (H.out.m1 (by decide)) (H.out.m2 (by decide)) H.out.m4 (w.heap.size + 1) (by simp) ?_; intro g cap w1 hown hgrow hat hlt; have HP := Lib.hid (put_drew H.out.buf H.out.low rfl hown hgrow); clear hown hgrow hat hlt))
  all_goals
    go_wp2
    go_ret
    exact HP.out
set_option maxRecDepth 100000 in
set_option maxHeartbeats 4000000 in
theorem appq_16 (B : Nat) (v : Value) (l : List UInt8) (w : World) (h : Rd w B v l) : Calls Tryd.prog 71 #[v, .int .u8 16] w (Put w B l [92, 117, 48, 48, 49, 48]) := by
  obtain ⟨i0, hi, hz0, hz1, hz2⟩ := info_parts info5
  have H := Lib.hid h
  have hx := Lib.hid (show Lib.indexByte (⟨#[8, 12, 10, 13, 9]⟩ : ByteArray).data.toList (16 : Int).toNat.toUInt8 = -1 by decide)
  clear h
  have hbits : bits .and .u8 16 15 = 0 := by decide
  go_enter Tryd.func71, Tryd.ntmps71
  go_wp2_with (first | (go_at_call 86; refine (idx_any _ _ _ _ hx.out).mono ?_; rintro e w' ⟨rfl, rfl⟩))
  go_region_law ((refine step_append_lies _ (by rfl) _ _ 101 (by rfl) B 5 i0 (.int .u8 0) 1 1 Tryd.underlying101 hi hz0 hz1 hz2 (by rfl) (by decide) v l.length (vals l) (by rfl) (Buf.drew (H.out.buf.alloc _)) ⟨w.heap.size, 0, none⟩ 6 6 (vals [92, 117, 48, 48, 49, 48]) (by rfl) (by rfl) (news_drew w _ _ rfl) (vals_one _) (by decide) (H.out.m1 (by decide)) (H.out.m2 (by decide)) H.out.m4 (w.heap.size + 1) (by simp) ?_; intro g cap w1 hown hgrow hat hlt; have HP := Lib.hid (put_drew H.out.buf H.out.low rfl hown hgrow); clear hown hgrow hat hlt))
  all_goals
    go_wp2
    go_ret
    exact HP.out
set_option maxRecDepth 100000 in
set_option maxHeartbeats 4000000 in
theorem appq_17 (B : Nat) (v : Value) (l : List UInt8) (w : World) (h : Rd w B v l) : Calls Tryd.prog 71 #[v, .int .u8 17] w (Put w B l [92, 117, 48, 48, 49, 49]) := by
  obtain ⟨i0, hi, hz0, hz1, hz2⟩ := info_parts info5
  have H := Lib.hid h
  have hx := Lib.hid (show Lib.indexByte (⟨#[8, 12, 10, 13, 9]⟩ : ByteArray).data.toList (17 : Int).toNat.toUInt8 = -1 by decide)
  clear h
  have hbits : bits .and .u8 17 15 = 1 := by decide
  go_enter Tryd.func71, Tryd.ntmps71
  go_wp2_with (first | (go_at_call 86; refine (idx_any _ _ _ _ hx.out).mono ?_; rintro e w' ⟨rfl, rfl⟩))
  go_region_law ((refine step_append_lies _ (by rfl) _ _ 101 (by rfl) B 5 i0 (.int .u8 0) 1 1 Tryd.underlying101 hi hz0 hz1 hz2 (by rfl) (by decide) v l.length (vals l) (by rfl) (Buf.drew (H.out.buf.alloc _)) ⟨w.heap.size, 0, none⟩ 6 6 (vals [92, 117, 48, 48, 49, 49]) (by rfl) (by rfl) (news_drew w _ _ rfl) (vals_one _) (by decide) (H.out.m1 (by decide)) (H.out.m2 (by decide)) H.out.m4 (w.heap.size + 1) (by simp) ?_; intro g cap w1 hown hgrow hat hlt; have HP := Lib.hid (put_drew H.out.buf H.out.low rfl hown hgrow); clear hown hgrow hat hlt))
  all_goals
    go_wp2
    go_ret
    exact HP.out
set_option maxRecDepth 100000 in
set_option maxHeartbeats 4000000 in
theorem appq_18 (B : Nat) (v : Value) (l : List UInt8) (w : World) (h : Rd w B v l) : Calls Tryd.prog 71 #[v, .int .u8 18] w (Put w B l [92, 117, 48, 48, 49, 50]) := by
  obtain ⟨i0, hi, hz0, hz1, hz2⟩ := info_parts info5
  have H := Lib.hid h
  have hx := Lib.hid (show Lib.indexByte (⟨#[8, 12, 10, 13, 9]⟩ : ByteArray).data.toList (18 : Int).toNat.toUInt8 = -1 by decide)
  clear h
  have hbits : bits .and .u8 18 15 = 2 := by decide
  go_enter Tryd.func71, Tryd.ntmps71
  go_wp2_with (first | (go_at_call 86; refine (idx_any _ _ _ _ hx.out).mono ?_; rintro e w' ⟨rfl, rfl⟩))
  go_region_law ((refine step_append_lies _ (by rfl) _ _ 101 (by rfl) B 5 i0 (.int .u8 0) 1 1 Tryd.underlying101 hi hz0 hz1 hz2 (by rfl) (by decide) v l.length (vals l) (by rfl) (Buf.drew (H.out.buf.alloc _)) ⟨w.heap.size, 0, none⟩ 6 6 (vals [92, 117, 48, 48, 49, 50]) (by rfl) (by rfl) (news_drew w _ _ rfl) (vals_one _) (by decide) (H.out.m1 (by decide)) (H.out.m2 (by decide)) H.out.m4 (w.heap.size + 1) (by simp) ?_; intro g cap w1 hown hgrow hat hlt; have HP := Lib.hid (put_drew H.out.buf H.out.low rfl hown hgrow); clear hown hgrow hat hlt))
  all_goals
    go_wp2
    go_ret
    exact HP.out
set_option maxRecDepth 100000 in
set_option maxHeartbeats 4000000 in
theorem appq_19 (B : Nat) (v : Value) (l : List UInt8) (w : World) (h : Rd w B v l) : Calls Tryd.prog 71 #[v, .int .u8 19] w (Put w B l [92, 117, 48, 48, 49, 51]) := by
  obtain ⟨i0, hi, hz0, hz1, hz2⟩ := info_parts info5
  have H := Lib.hid h
  have hx := Lib.hid (show Lib.indexByte (⟨#[8, 12, 10, 13, 9]⟩ : ByteArray).data.toList (19 : Int).toNat.toUInt8 = -1 by decide)
  clear h
  have hbits : bits .and .u8 19 15 = 3 := by decide
  go_enter Tryd.func71, Tryd.ntmps71
  go_wp2_with (first | (go_at_call 86; refine (idx_any _ _ _ _ hx.out).mono ?_; rintro e w' ⟨rfl, rfl⟩))
  go_region_law ((refine step_append_lies _ (by rfl) _ _ 101 (by rfl) B 5 i0 (.int .u8 0) 1 1 Tryd.underlying101 hi hz0 hz1 hz2 (by rfl) (by decide) v l.length (vals l) (by rfl) (Buf.drew (H.out.buf.alloc _)) ⟨w.heap.size, 0, none⟩ 6 6 (vals [92, 117, 48, 48, 49, 51]) (by rfl) (by rfl) (news_drew w _ _ rfl) (vals_one _) (by decide) (H.out.m1 (by decide)) (H.out.m2 (by decide)) H.out.m4 (w.heap.size + 1) (by simp) ?_; intro g cap w1 hown hgrow hat hlt; have HP := Lib.hid (put_drew H.out.buf H.out.low rfl hown hgrow); clear hown hgrow hat hlt))
  all_goals
    go_wp2
    go_ret
    exact HP.out
set_option maxRecDepth 100000 in
set_option maxHeartbeats 4000000 in
theorem appq_20 (B : Nat) (v : Value) (l : List UInt8) (w : World) (h : Rd w B v l) : Calls Tryd.prog 71 #[v, .int .u8 20] w (Put w B l [92, 117, 48, 48, 49, 52]) := by
  obtain ⟨i0, hi, hz0, hz1, hz2⟩ := info_parts info5
  have H := Lib.hid h
  have hx := Lib.hid (show Lib.indexByte (⟨#[8, 12, 10, 13, 9]⟩ : ByteArray).data.toList (20 : Int).toNat.toUInt8 = -1 by decide)
  clear h
  have hbits : bits .and .u8 20 15 = 4 := by decide
  go_enter Tryd.func71, Tryd.ntmps71
  go_wp2_with (first | (go_at_call 86; refine (idx_any _ _ _ _ hx.out).mono ?_; rintro e w' ⟨rfl, rfl⟩))
  go_region_law ((refine step_append_lies _ (by rfl) _ _ 101 (by rfl) B 5 i0 (.int .u8 0) 1 1 Tryd.underlying101 hi hz0 hz1 hz2 (by rfl) (by decide) v l.length (vals l) (by rfl) (Buf.drew (H.out.buf.alloc _)) ⟨w.heap.size, 0, none⟩ 6 6 (vals [92, 117, 48, 48, 49, 52]) (by rfl) (by rfl) (news_drew w _ _ rfl) (vals_one _) (by decide) (H.out.m1 (by decide)) (H.out.m2 (by decide)) H.out.m4 (w.heap.size + 1) (by simp) ?_; intro g cap w1 hown hgrow hat hlt; have HP := Lib.hid (put_drew H.out.buf H.out.low rfl hown hgrow); clear hown hgrow hat hlt))
  all_goals
    go_wp2
    go_ret
    exact HP.out
set_option maxRecDepth 100000 in
set_option maxHeartbeats 4000000 in
theorem appq_21 (B : Nat) (v : Value) (l : List UInt8) (w : World) (h : Rd w B v l) : Calls Tryd.prog 71 #[v, .int .u8 21] w (Put w B l [92, 117, 48, 48, 49, 53]) := by
  obtain ⟨i0, hi, hz0, hz1, hz2⟩ := info_parts info5
  have H := Lib.hid h
  have hx := Lib.hid (show Lib.indexByte (⟨#[8, 12, 10, 13, 9]⟩ : ByteArray).data.toList (21 : Int).toNat.toUInt8 = -1 by decide)
  clear h
  have hbits : bits .and .u8 21 15 = 5 := by decide
  go_enter Tryd.func71, Tryd.ntmps71
  go_wp2_with (first | (go_at_call 86; refine (idx_any _ _ _ _ hx.out).mono ?_; rintro e w' ⟨rfl, rfl⟩))
  go_region_law ((refine step_append_lies _ (by rfl) _ _ 101 (by rfl) B 5 i0 (.int .u8 0) 1 1 Tryd.underlying101 hi hz0 hz1 hz2 (by rfl) (by decide) v l.length (vals l) (by rfl) (Buf.drew (H.out.buf.alloc _)) ⟨w.heap.size, 0, none⟩ 6 6 (vals [92, 117, 48, 48, 49, 53]) (by rfl) (by rfl) (news_drew w _ _ rfl) (vals_one _) (by decide) (H.out.m1 (by decide)) (H.out.m2 (by decide)) H.out.m4 (w.heap.size + 1) (by simp) ?_; intro g cap w1 hown hgrow hat hlt; have HP := Lib.hid (put_drew H.out.buf H.out.low rfl hown hgrow); clear hown hgrow hat hlt))
  all_goals
    go_wp2
    go_ret
    exact HP.out
set_option maxRecDepth 100000 in
set_option maxHeartbeats 4000000 in
theorem appq_22 (B : Nat) (v : Value) (l : List UInt8) (w : World) (h : Rd w B v l) : Calls Tryd.prog 71 #[v, .int .u8 22] w (Put w B l [92, 117, 48, 48, 49, 54]) := by
  obtain ⟨i0, hi, hz0, hz1, hz2⟩ := info_parts info5
  have H := Lib.hid h
  have hx := Lib.hid (show Lib.indexByte (⟨#[8, 12, 10, 13, 9]⟩ : ByteArray).data.toList (22 : Int).toNat.toUInt8 = -1 by decide)
  clear h
  have hbits : bits .and .u8 22 15 = 6 := by decide
  go_enter Tryd.func71, Tryd.ntmps71
  go_wp2_with (first | (go_at_call 86; refine (idx_any _ _ _ _ hx.out).mono ?_; rintro e w' ⟨rfl, rfl⟩))
  go_region_law ((refine step_append_lies _ (by rfl) _ _ 101 (by rfl) B 5 i0 (.int .u8 0) 1 1 Tryd.underlying101 hi hz0 hz1 hz2 (by rfl) (by decide) v l.length (vals l) (by rfl) (Buf.drew (H.out.buf.alloc _)) ⟨w.heap.size, 0, none⟩ 6 6 (vals [92, 117, 48, 48, 49, 54]) (by rfl) (by rfl) (news_drew w _ _ rfl) (vals_one _) (by decide) (H.out.m1 (by decide)) (H.out.m2 (by decide)) H.out.m4 (w.heap.size + 1) (by simp) ?_; intro g cap w1 hown hgrow hat hlt; have HP := Lib.hid (put_drew H.out.buf H.out.low rfl hown hgrow); clear hown hgrow hat hlt))
  all_goals
    go_wp2
    go_ret
    exact HP.out
set_option maxRecDepth 100000 in
set_option maxHeartbeats 4000000 in
theorem appq_23 (B : Nat) (v : Value) (l : List UInt8) (w : World) (h : Rd w B v l) : Calls Tryd.prog 71 #[v, .int .u8 23] w (Put w B l [92, 117, 48, 48, 49, 55]) := by
  obtain ⟨i0, hi, hz0, hz1, hz2⟩ := info_parts info5
  have H := Lib.hid h
  have hx := Lib.hid (show Lib.indexByte (⟨#[8, 12, 10, 13, 9]⟩ : ByteArray).data.toList (23 : Int).toNat.toUInt8 = -1 by decide)
  clear h
  have hbits : bits .and .u8 23 15 = 7 := by decide
  go_enter Tryd.func71, Tryd.ntmps71
  go_wp2_with (first | (go_at_call 86; refine (idx_any _ _ _ _ hx.out).mono ?_; rintro e w' ⟨rfl, rfl⟩))
  go_region_law ((refine step_append_lies _ (by rfl) _ _ 101 (by rfl) B 5 i0 (.int .u8 0) 1 1 Tryd.underlying101 hi hz0 hz1 hz2 (by rfl) (by decide) v l.length (vals l) (by rfl) (Buf.drew (H.out.buf.alloc _)) ⟨w.heap.size, 0, none⟩ 6 6 (vals [92, 117, 48, 48, 49, 55]) (by rfl) (by rfl) (news_drew w _ _ rfl) (vals_one _) (by decide) (H.out.m1 (by decide)) (H.out.m2 (by decide)) H.out.m4 (w.heap.size + 1) (by simp) ?_; intro g cap w1 hown hgrow hat hlt; have HP := Lib.hid (put_drew H.out.buf H.out.low rfl hown hgrow); clear hown hgrow hat hlt))
  all_goals
    go_wp2
    go_ret
    exact HP.out
set_option maxRecDepth 100000 in
set_option maxHeartbeats 4000000 in
theorem appq_24 (B : Nat) (v : Value) (l : List UInt8) (w : World) (h : Rd w B v l) : Calls Tryd.prog 71 #[v, .int .u8 24] w (Put w B l [92, 117, 48, 48, 49, 56]) := by
  obtain ⟨i0, hi, hz0, hz1, hz2⟩ := info_parts info5
  have H := Lib.hid h
  have hx := Lib.hid (show Lib.indexByte (⟨#[8, 12, 10, 13, 9]⟩ : ByteArray).data.toList (24 : Int).toNat.toUInt8 = -1 by decide)
  clear h
  have hbits : bits .and .u8 24 15 = 8 := by decide
  go_enter Tryd.func71, Tryd.ntmps71
  go_wp2_with (first | (go_at_call 86; refine (idx_any _ _ _ _ hx.out).mono ?_; rintro e w' ⟨rfl, rfl⟩))
  go_region_law ((refine step_append_lies _ (by rfl) _ _ 101 (by rfl) B 5 i0 (.int .u8 0) 1 1 Tryd.underlying101 hi hz0 hz1 hz2 (by rfl) (by decide) v l.length (vals l) (by rfl) (Buf.drew (H.out.buf.alloc _)) ⟨w.heap.size, 0, none⟩ 6 6 (vals [92, 117, 48, 48, 49, 56]) (by rfl) (by rfl) (news_drew w _ _ rfl) (vals_one _) (by decide) (H.out.m1 (by decide)) (H.out.m2 (by decide)) H.out.m4 (w.heap.size + 1) (by simp) ?_; intro g cap w1 hown hgrow hat hlt; have HP := Lib.hid (put_drew H.out.buf H.out.low rfl hown hgrow); clear hown hgrow hat hlt))
  all_goals
    go_wp2
    go_ret
    exact HP.out
set_option maxRecDepth 100000 in
set_option maxHeartbeats 4000000 in
theorem appq_25 (B : Nat) (v : Value) (l : List UInt8) (w : World) (h : Rd w B v l) : Calls Tryd.prog 71 #[v, .int .u8 25] w (Put w B l [92, 117, 48, 48, 49, 57]) := by
  obtain ⟨i0, hi, hz0, hz1, hz2⟩ := info_parts info5
  have H := Lib.hid h
  have hx := Lib.hid (show Lib.indexByte (⟨#[8, 12, 10, 13, 9]⟩ : ByteArray).data.toList (25 : Int).toNat.toUInt8 = -1 by decide)
  clear h
  have hbits : bits .and .u8 25 15 = 9 := by decide
  go_enter Tryd.func71, Tryd.ntmps71
  go_wp2_with (first | (go_at_call 86; refine (idx_any _ _ _ _ hx.out).mono ?_; rintro e w' ⟨rfl, rfl⟩))
  go_region_law ((refine step_append_lies _ (by rfl) _ _ 101 (by rfl) B 5 i0 (.int .u8 0) 1 1 Tryd.underlying101 hi hz0 hz1 hz2 (by rfl) (by decide) v l.length (vals l) (by rfl) (Buf.drew (H.out.buf.alloc _)) ⟨w.heap.size, 0, none⟩ 6 6 (vals [92, 117, 48, 48, 49, 57]) (by rfl) (by rfl) (news_drew w _ _ rfl) (vals_one _) (by decide) (H.out.m1 (by decide)) (H.out.m2 (by decide)) H.out.m4 (w.heap.size + 1) (by simp) ?_; intro g cap w1 hown hgrow hat hlt; have HP := Lib.hid (put_drew H.out.buf H.out.low rfl hown hgrow); clear hown hgrow hat hlt))
  all_goals
    go_wp2
    go_ret
    exact HP.out
set_option maxRecDepth 100000 in
set_option maxHeartbeats 4000000 in
theorem appq_26 (B : Nat) (v : Value) (l : List UInt8) (w : World) (h : Rd w B v l) : Calls Tryd.prog 71 #[v, .int .u8 26] w (Put w B l [92, 117, 48, 48, 49, 97]) := by
  obtain ⟨i0, hi, hz0, hz1, hz2⟩ := info_parts info5
  have H := Lib.hid h
  have hx := Lib.hid (show Lib.indexByte (⟨#[8, 12, 10, 13, 9]⟩ : ByteArray).data.toList (26 : Int).toNat.toUInt8 = -1 by decide)
  clear h
  have hbits : bits .and .u8 26 15 = 10 := by decide
  go_enter Tryd.func71, Tryd.ntmps71
  go_wp2_with (first | (go_at_call 86; refine (idx_any _ _ _ _ hx.out).mono ?_; rintro e w' ⟨rfl, rfl⟩))
  go_region_law ((refine step_append_lies _ (by rfl) _ _ 101 (by rfl) B 5 i0 (.int .u8 0) 1 1 Tryd.underlying101 hi hz0 hz1 hz2 (by rfl) (by decide) v l.length (vals l) (by rfl) (Buf.drew (H.out.buf.alloc _)) ⟨w.heap.size, 0, none⟩ 6 6 (vals [92, 117, 48, 48, 49, 97]) (by rfl) (by rfl) (news_drew w _ _ rfl) (vals_one _) (by decide) (H.out.m1 (by decide)) (H.out.m2 (by decide)) H.out.m4 (w.heap.size + 1) (by simp) ?_; intro g cap w1 hown hgrow hat hlt; have HP := Lib.hid (put_drew H.out.buf H.out.low rfl hown hgrow); clear hown hgrow hat hlt))
  all_goals
    go_wp2
    go_ret
    exact HP.out
set_option maxRecDepth 100000 in
set_option maxHeartbeats 4000000 in
theorem appq_27 (B : Nat) (v : Value) (l : List UInt8) (w : World) (h : Rd w B v l) : Calls Tryd.prog 71 #[v, .int .u8 27] w (Put w B l [92, 117, 48, 48, 49, 98]) := by
  obtain ⟨i0, hi, hz0, hz1, hz2⟩ := info_parts info5
  have H := Lib.hid h
  have hx := Lib.hid (show Lib.indexByte (⟨#[8, 12, 10, 13, 9]⟩ : ByteArray).data.toList (27 : Int).toNat.toUInt8 = -1 by decide)
  clear h
  have hbits : bits .and .u8 27 15 = 11 := by decide
  go_enter Tryd.func71, Tryd.ntmps71
  go_wp2_with (first | (go_at_call 86; refine (idx_any _ _ _ _ hx.out).mono ?_; rintro e w' ⟨rfl, rfl⟩))
  go_region_law ((refine step_append_lies _ (by rfl) _ _ 101 (by rfl) B 5 i0 (.int .u8 0) 1 1 Tryd.underlying101 hi hz0 hz1 hz2 (by rfl) (by decide) v l.length (vals l) (by rfl) (Buf.drew (H.out.buf.alloc _)) ⟨w.heap.size, 0, none⟩ 6 6 (vals [92, 117, 48, 48, 49, 98]) (by rfl) (by rfl) (news_drew w _ _ rfl) (vals_one _) (by decide) (H.out.m1 (by decide)) (H.out.m2 (by decide)) H.out.m4 (w.heap.size + 1) (by simp) ?_; intro g cap w1 hown hgrow hat hlt; have HP := Lib.hid (put_drew H.out.buf H.out.low rfl hown hgrow); clear hown hgrow hat hlt))
  all_goals
    go_wp2
    go_ret
    exact HP.out
set_option maxRecDepth 100000 in
set_option maxHeartbeats 4000000 in
theorem appq_28 (B : Nat) (v : Value) (l : List UInt8) (w : World) (h : Rd w B v l) : Calls Tryd.prog 71 #[v, .int .u8 28] w (Put w B l [92, 117, 48, 48, 49, 99]) := by
  obtain ⟨i0, hi, hz0, hz1, hz2⟩ := info_parts info5
  have H := Lib.hid h
  have hx := Lib.hid (show Lib.indexByte (⟨#[8, 12, 10, 13, 9]⟩ : ByteArray).data.toList (28 : Int).toNat.toUInt8 = -1 by decide)
  clear h
  have hbits : bits .and .u8 28 15 = 12 := by decide
  go_enter Tryd.func71, Tryd.ntmps71
  go_wp2_with (first | (go_at_call 86; refine (idx_any _ _ _ _ hx.out).mono ?_; rintro e w' ⟨rfl, rfl⟩))
  go_region_law ((refine step_append_lies _ (by rfl) _ _ 101 (by rfl) B 5 i0 (.int .u8 0) 1 1 Tryd.underlying101 hi hz0 hz1 hz2 (by rfl) (by decide) v l.length (vals l) (by rfl) (Buf.drew (H.out.buf.alloc _)) ⟨w.heap.size, 0, none⟩ 6 6 (vals [92, 117, 48, 48, 49, 99]) (by rfl) (by rfl) (news_drew w _ _ rfl) (vals_one _) (by decide) (H.out.m1 (by decide)) (H.out.m2 (by decide)) H.out.m4 (w.heap.size + 1) (by simp) ?_; intro g cap w1 hown hgrow hat hlt; have HP := Lib.hid (put_drew H.out.buf H.out.low rfl hown hgrow); clear hown hgrow hat hlt))
  all_goals
    go_wp2
    go_ret
    exact HP.out
set_option maxRecDepth 100000 in
set_option maxHeartbeats 4000000 in
theorem appq_29 (B : Nat) (v : Value) (l : List UInt8) (w : World) (h : Rd w B v l) : Calls Tryd.prog 71 #[v, .int .u8 29] w (Put w B l [92, 117, 48, 48, 49, 100]) := by
  obtain ⟨i0, hi, hz0, hz1, hz2⟩ := info_parts info5
  have H := Lib.hid h
  have hx := Lib.hid (show Lib.indexByte (⟨#[8, 12, 10, 13, 9]⟩ : ByteArray).data.toList (29 : Int).toNat.toUInt8 = -1 by decide)
  clear h
  have hbits : bits .and .u8 29 15 = 13 := by decide
  go_enter Tryd.func71, Tryd.ntmps71
  go_wp2_with (first | (go_at_call 86; refine (idx_any _ _ _ _ hx.out).mono ?_; rintro e w' ⟨rfl, rfl⟩))
  go_region_law ((refine step_append_lies _ (by rfl) _ _ 101 (by rfl) B 5 i0 (.int .u8 0) 1 1 Tryd.underlying101 hi hz0 hz1 hz2 (by rfl) (by decide) v l.length (vals l) (by rfl) (Buf.drew (H.out.buf.alloc _)) ⟨w.heap.size, 0, none⟩ 6 6 (vals [92, 117, 48, 48, 49, 100]) (by rfl) (by rfl) (news_drew w _ _ rfl) (vals_one _) (by decide) (H.out.m1 (by decide)) (H.out.m2 (by decide)) H.out.m4 (w.heap.size + 1) (by simp) ?_; intro g cap w1 hown hgrow hat hlt; have HP := Lib.hid (put_drew H.out.buf H.out.low rfl hown hgrow); clear hown hgrow hat hlt))
  all_goals
    go_wp2
    go_ret
    exact HP.out
set_option maxRecDepth 100000 in
set_option maxHeartbeats 4000000 in
theorem appq_30 (B : Nat) (v : Value) (l : List UInt8) (w : World) (h : Rd w B v l) : Calls Tryd.prog 71 #[v, .int .u8 30] w (Put w B l [92, 117, 48, 48, 49, 101]) := by
  obtain ⟨i0, hi, hz0, hz1, hz2⟩ := info_parts info5
  have H := Lib.hid h
  have hx := Lib.hid (show Lib.indexByte (⟨#[8, 12, 10, 13, 9]⟩ : ByteArray).data.toList (30 : Int).toNat.toUInt8 = -1 by decide)
  clear h
  have hbits : bits .and .u8 30 15 = 14 := by decide
  go_enter Tryd.func71, Tryd.ntmps71
  go_wp2_with (first | (go_at_call 86; refine (idx_any _ _ _ _ hx.out).mono ?_; rintro e w' ⟨rfl, rfl⟩))
  go_region_law ((refine step_append_lies _ (by rfl) _ _ 101 (by rfl) B 5 i0 (.int .u8 0) 1 1 Tryd.underlying101 hi hz0 hz1 hz2 (by rfl) (by decide) v l.length (vals l) (by rfl) (Buf.drew (H.out.buf.alloc _)) ⟨w.heap.size, 0, none⟩ 6 6 (vals [92, 117, 48, 48, 49, 101]) (by rfl) (by rfl) (news_drew w _ _ rfl) (vals_one _) (by decide) (H.out.m1 (by decide)) (H.out.m2 (by decide)) H.out.m4 (w.heap.size + 1) (by simp) ?_; intro g cap w1 hown hgrow hat hlt; have HP := Lib.hid (put_drew H.out.buf H.out.low rfl hown hgrow); clear hown hgrow hat hlt))
  all_goals
    go_wp2
    go_ret
    exact HP.out
set_option maxRecDepth 100000 in
set_option maxHeartbeats 4000000 in
theorem appq_31 (B : Nat) (v : Value) (l : List UInt8) (w : World) (h : Rd w B v l) : Calls Tryd.prog 71 #[v, .int .u8 31] w (Put w B l [92, 117, 48, 48, 49, 102]) := by
  obtain ⟨i0, hi, hz0, hz1, hz2⟩ := info_parts info5
  have H := Lib.hid h
  have hx := Lib.hid (show Lib.indexByte (⟨#[8, 12, 10, 13, 9]⟩ : ByteArray).data.toList (31 : Int).toNat.toUInt8 = -1 by decide)
  clear h
  have hbits : bits .and .u8 31 15 = 15 := by decide
  go_enter Tryd.func71, Tryd.ntmps71
  go_wp2_with (first | (go_at_call 86; refine (idx_any _ _ _ _ hx.out).mono ?_; rintro e w' ⟨rfl, rfl⟩))
  go_region_law ((refine step_append_lies _ (by rfl) _ _ 101 (by rfl) B 5 i0 (.int .u8 0) 1 1 Tryd.underlying101 hi hz0 hz1 hz2 (by rfl) (by decide) v l.length (vals l) (by rfl) (Buf.drew (H.out.buf.alloc _)) ⟨w.heap.size, 0, none⟩ 6 6 (vals [92, 117, 48, 48, 49, 102]) (by rfl) (by rfl) (news_drew w _ _ rfl) (vals_one _) (by decide) (H.out.m1 (by decide)) (H.out.m2 (by decide)) H.out.m4 (w.heap.size + 1) (by simp) ?_; intro g cap w1 hown hgrow hat hlt; have HP := Lib.hid (put_drew H.out.buf H.out.low rfl hown hgrow); clear hown hgrow hat hlt))
  all_goals
    go_wp2
    go_ret
    exact HP.out
end Go.Proofs.YtfhhmajkacjbgaaDoor
