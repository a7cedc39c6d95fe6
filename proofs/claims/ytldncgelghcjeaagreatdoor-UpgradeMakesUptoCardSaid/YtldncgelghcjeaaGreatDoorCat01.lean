/-
  DERIVED: THE SHELF's CONTRACTS AT THIS DUMP, IN PLAIN WORDS (tools/lay-plain.mjs out of 'TryzShelf.lean', which tools/lay-shelf.mjs wrote): THE SAME DECLARATIONS UNDER THE SAME NAMES: 'import', 'namespace', 'open', 'def', 'theorem' AND NOTHING ELSE: no command of the shelf's: FOR A HAND-IN. Each laying: the table of numbers ('.._ren') and one theorem, a field a fact of the dump's own or the kernel's comparison; each contract: ONE APPLICATION.
  From the walks of CkthreeReads, CkthreeBack and CkthreeCodes to their rows and cards: what they share.
  Rows of bytes in memory; what a text is when it is quoted. No call.
  Labels and names, as functions of their bytes. No call.
  Rows of texts in memory (beside utf's Base: of a seat that has both).
  Pods: what is wrong with one, its defaults, whether two are alike. No call.
-/
import Derived.Shelf.Strings.Builder1
import Derived.Shelf.Small.Strs
import Derived.Shelf.Unicode.DecodeAny
import Derived.Shelf.Unicode.ValidAny
import Derived.Shelf.Utf8.AppendRunePlain
import Derived.Shelf.Strings.Search2
import Derived.Test.YtldncgelghcjeaaGreatDoorProg
import Derived.Ground.NamesProg
import Derived.Test.YtldncgelghcjeaaGreatDoorCards
import Derived.Test.YtldncgelghcjeaaGreatDoorTie
import Derived.WalkKit
import Derived.ProofKit
import Derived.OpenShut
import Derived.ShutString
import Derived.Lib.LaidIn
import Derived.Lib.LaidU8T
import Derived.Deep.DeepHandedRow
import Derived.Deep.DeepWitnessRowRef
import Derived.SevenTiedAt
import Derived.Carry
import Derived.ChangeOld
import Derived.Test.YtldncgelghcjeaaGreatDoorRows
import Derived.WalkSpells
import Derived.WalkLawsBesides
import Derived.LoopTactic
import Derived.Lib.Hide
import Derived.Below
import Derived.Deep.OwnRows
import Derived.Deep.AppendLies
import Derived.Laws.IdiomStrings
import Derived.Laws.MakeOwn
import Derived.Deep.QuietTactic
import Derived.BigQuiet
import Derived.Deep.LoopGhost
import Derived.Deep.Draws
import Derived.Lib.Bytealg
import Derived.Lib.UnsafeStr
import Derived.Lib.BufferWrite
import Derived.Lib.Walk
import Derived.Laws.BitsAllLaws
import Derived.Lib.ValidLaws
set_option linter.unusedSimpArgs false
set_option linter.unusedVariables false
namespace Go.Proofs
open Go.Shelf
def Tryz.laysIndex_ren : Go.Shelf.Ren := ⟨fun | 137 => 169 | 217 => 182 | 266 => 193 | n => n, fun | 9 => 9 | 5 => 5 | 3 => 3 | n => n, fun | n => n⟩
theorem Tryz.laysIndex : Go.Proofs.Lays.n137 Tryz.prog Tryz.laysIndex_ren := {
  mixed := by kernel_rfl
  f137 := Tryz.func169.trans (congrArg some (by kernel_rfl))
  f217 := Tryz.func182.trans (congrArg some (by kernel_rfl))
  f266 := Tryz.func193.trans (congrArg some (by kernel_rfl))
  t3 := Tryz.underlying3
  a3 := Tryz.isAgg3
  z3 := Tryz.sizeOf3
  v3 := Tryz.zeroValue3
  t5 := Tryz.underlying5
  a5 := Tryz.isAgg5
  z5 := Tryz.sizeOf5
  v5 := Tryz.zeroValue5
  t9 := Tryz.underlying9
  a9 := Tryz.isAgg9
  z9 := Tryz.sizeOf9
  v9 := Tryz.zeroValue9 }
def Tryz.laysDecode_ren : Go.Shelf.Ren := ⟨fun | 197 => 167 | 260 => 180 | n => n, fun | 9 => 9 | 21 => 21 | 3 => 3 | 4 => 4 | 5 => 5 | 105 => 230 | 119 => 245 | 0 => 0 | 46 => 188 | 139 => 248 | 138 => 247 | n => n, fun | 3 => 0 | 4 => 1 | n => n⟩
theorem Tryz.laysDecode : Go.Proofs.Lays.n197 Tryz.prog Tryz.laysDecode_ren := {
  mixed := by kernel_rfl
  f197 := Tryz.func167.trans (congrArg some (by kernel_rfl))
  f260 := Tryz.func180.trans (congrArg some (by kernel_rfl))
  t0 := Tryz.underlying0
  a0 := Tryz.isAgg0
  z0 := Tryz.sizeOf0
  v0 := Tryz.zeroValue0
  t3 := Tryz.underlying3
  a3 := Tryz.isAgg3
  z3 := Tryz.sizeOf3
  v3 := Tryz.zeroValue3
  t4 := Tryz.underlying4
  a4 := Tryz.isAgg4
  z4 := Tryz.sizeOf4
  v4 := Tryz.zeroValue4
  t5 := Tryz.underlying5
  a5 := Tryz.isAgg5
  z5 := Tryz.sizeOf5
  v5 := Tryz.zeroValue5
  t9 := Tryz.underlying9
  a9 := Tryz.isAgg9
  z9 := Tryz.sizeOf9
  v9 := Tryz.zeroValue9
  t21 := Tryz.underlying21
  a21 := Tryz.isAgg21
  z21 := Tryz.sizeOf21
  v21 := Tryz.zeroValue21
  t46 := Tryz.underlying188
  a46 := Tryz.isAgg188
  z46 := Tryz.sizeOf188
  v46 := Tryz.zeroValue188
  t105 := Tryz.underlying230
  a105 := Tryz.isAgg230
  z105 := Tryz.sizeOf230
  v105 := Tryz.zeroValue230
  t119 := Tryz.underlying245
  a119 := Tryz.isAgg245
  z119 := Tryz.sizeOf245
  t138 := Tryz.underlying247
  a138 := Tryz.isAgg247
  z138 := Tryz.sizeOf247
  v138 := Tryz.zeroValue247
  t139 := Tryz.underlying248
  a139 := Tryz.isAgg248
  z139 := Tryz.sizeOf248
  v139 := Tryz.zeroValue248
  g3 := by kernel_rfl
  g4 := by kernel_rfl }
def Tryz.laysValid_ren : Go.Shelf.Ren := ⟨fun | 196 => 181 | 259 => 192 | n => n, fun | 9 => 9 | 4 => 4 | 3 => 3 | 5 => 5 | 12 => 12 | 119 => 245 | 0 => 0 | 46 => 188 | 139 => 248 | 138 => 247 | 53 => 22 | n => n, fun | 3 => 0 | 4 => 1 | n => n⟩
theorem Tryz.laysValid : Go.Proofs.Lays.n196 Tryz.prog Tryz.laysValid_ren := {
  mixed := by kernel_rfl
  f196 := Tryz.func181.trans (congrArg some (by kernel_rfl))
  f259 := Tryz.func192.trans (congrArg some (by kernel_rfl))
  t0 := Tryz.underlying0
  a0 := Tryz.isAgg0
  z0 := Tryz.sizeOf0
  v0 := Tryz.zeroValue0
  t3 := Tryz.underlying3
  a3 := Tryz.isAgg3
  z3 := Tryz.sizeOf3
  v3 := Tryz.zeroValue3
  t4 := Tryz.underlying4
  a4 := Tryz.isAgg4
  z4 := Tryz.sizeOf4
  v4 := Tryz.zeroValue4
  t5 := Tryz.underlying5
  a5 := Tryz.isAgg5
  z5 := Tryz.sizeOf5
  v5 := Tryz.zeroValue5
  t9 := Tryz.underlying9
  a9 := Tryz.isAgg9
  z9 := Tryz.sizeOf9
  v9 := Tryz.zeroValue9
  t12 := Tryz.underlying12
  a12 := Tryz.isAgg12
  z12 := Tryz.sizeOf12
  v12 := Tryz.zeroValue12
  t46 := Tryz.underlying188
  a46 := Tryz.isAgg188
  z46 := Tryz.sizeOf188
  v46 := Tryz.zeroValue188
  t53 := Tryz.underlying22
  a53 := Tryz.isAgg22
  z53 := Tryz.sizeOf22
  v53 := Tryz.zeroValue22
  t119 := Tryz.underlying245
  a119 := Tryz.isAgg245
  z119 := Tryz.sizeOf245
  t138 := Tryz.underlying247
  a138 := Tryz.isAgg247
  z138 := Tryz.sizeOf247
  v138 := Tryz.zeroValue247
  t139 := Tryz.underlying248
  a139 := Tryz.isAgg248
  z139 := Tryz.sizeOf248
  v139 := Tryz.zeroValue248
  g3 := by kernel_rfl
  g4 := by kernel_rfl }
def Tryz.laysRune_ren : Go.Shelf.Ren := ⟨fun | 242 => 191 | 278 => 198 | n => n, fun | 37 => 98 | 21 => 21 | 51 => 60 | 4 => 4 | 5 => 5 | 46 => 188 | n => n, fun | n => n⟩
theorem Tryz.laysRune : Go.Proofs.Lays.n242 Tryz.prog Tryz.laysRune_ren := {
  mixed := by kernel_rfl
  f242 := Tryz.func191.trans (congrArg some (by kernel_rfl))
  f278 := Tryz.func198.trans (congrArg some (by kernel_rfl))
  t4 := Tryz.underlying4
  a4 := Tryz.isAgg4
  z4 := Tryz.sizeOf4
  v4 := Tryz.zeroValue4
  t5 := Tryz.underlying5
  a5 := Tryz.isAgg5
  z5 := Tryz.sizeOf5
  v5 := Tryz.zeroValue5
  t21 := Tryz.underlying21
  a21 := Tryz.isAgg21
  z21 := Tryz.sizeOf21
  v21 := Tryz.zeroValue21
  t37 := Tryz.underlying98
  a37 := Tryz.isAgg98
  z37 := Tryz.sizeOf98
  v37 := Tryz.zeroValue98
  t46 := Tryz.underlying188
  a46 := Tryz.isAgg188
  z46 := Tryz.sizeOf188
  v46 := Tryz.zeroValue188
  t51 := Tryz.underlying60
  a51 := Tryz.isAgg60
  z51 := Tryz.sizeOf60
  v51 := Tryz.zeroValue60 }
def Tryz.laysSub_ren : Go.Shelf.Ren := ⟨fun | 219 => 194 | 217 => 182 | 225 => 199 | 224 => 200 | 267 => 201 | 266 => 193 | 314 => 203 | n => n, fun | 9 => 9 | 3 => 3 | 4 => 4 | 5 => 5 | 46 => 188 | 146 => 255 | 51 => 60 | n => n, fun | 1 => 2 | n => n⟩
theorem Tryz.laysSub : Go.Proofs.Lays.n219 Tryz.prog Tryz.laysSub_ren := {
  mixed := by kernel_rfl
  f217 := Tryz.func182.trans (congrArg some (by kernel_rfl))
  f219 := Tryz.func194.trans (congrArg some (by kernel_rfl))
  f224 := Tryz.func200.trans (congrArg some (by kernel_rfl))
  f225 := Tryz.func199.trans (congrArg some (by kernel_rfl))
  f266 := Tryz.func193.trans (congrArg some (by kernel_rfl))
  f267 := Tryz.func201.trans (congrArg some (by kernel_rfl))
  f314 := Tryz.func203.trans (congrArg some (by kernel_rfl))
  t3 := Tryz.underlying3
  a3 := Tryz.isAgg3
  z3 := Tryz.sizeOf3
  v3 := Tryz.zeroValue3
  t4 := Tryz.underlying4
  a4 := Tryz.isAgg4
  z4 := Tryz.sizeOf4
  v4 := Tryz.zeroValue4
  t5 := Tryz.underlying5
  a5 := Tryz.isAgg5
  z5 := Tryz.sizeOf5
  v5 := Tryz.zeroValue5
  t9 := Tryz.underlying9
  a9 := Tryz.isAgg9
  z9 := Tryz.sizeOf9
  v9 := Tryz.zeroValue9
  t46 := Tryz.underlying188
  a46 := Tryz.isAgg188
  z46 := Tryz.sizeOf188
  v46 := Tryz.zeroValue188
  t51 := Tryz.underlying60
  a51 := Tryz.isAgg60
  z51 := Tryz.sizeOf60
  v51 := Tryz.zeroValue60
  t146 := Tryz.underlying255
  a146 := Tryz.isAgg255
  z146 := Tryz.sizeOf255
  v146 := Tryz.zeroValue255
  g1 := by kernel_rfl }
def Tryz.lays169_ren : Go.Shelf.Ren := ⟨fun | 169 => 48 | n => n, fun | 70 => 97 | 9 => 9 | 0 => 0 | 72 => 100 | 37 => 98 | 127 => 182 | 3 => 3 | 5 => 5 | n => n, fun | n => n⟩
theorem Tryz.lays169 : Go.Proofs.Lays.n169 Tryz.prog Tryz.lays169_ren := {
  mixed := by kernel_rfl
  f169 := Tryz.func48.trans (congrArg some (by kernel_rfl))
  t0 := Tryz.underlying0
  a0 := Tryz.isAgg0
  z0 := Tryz.sizeOf0
  v0 := Tryz.zeroValue0
  t3 := Tryz.underlying3
  a3 := Tryz.isAgg3
  z3 := Tryz.sizeOf3
  v3 := Tryz.zeroValue3
  t9 := Tryz.underlying9
  a9 := Tryz.isAgg9
  z9 := Tryz.sizeOf9
  v9 := Tryz.zeroValue9
  t37 := Tryz.underlying98
  a37 := Tryz.isAgg98
  z37 := Tryz.sizeOf98
  v37 := Tryz.zeroValue98
  t70 := Tryz.underlying97
  a70 := Tryz.isAgg97
  z70 := Tryz.sizeOf97
  v70 := Tryz.zeroValue97
  t72 := Tryz.underlying100
  a72 := Tryz.isAgg100
  z72 := Tryz.sizeOf100
  v72 := Tryz.zeroValue100
  t127 := Tryz.underlying182
  a127 := Tryz.isAgg182
  z127 := Tryz.sizeOf182
  v127 := Tryz.zeroValue182 }
theorem Tryz.Builder_Extra_169 : Builder.Extra Tryz.prog Tryz.lays169_ren := {
  sizeBuilder := by kernel_rfl
  liesBuilder := by kernel_rfl
  t5 := Tryz.underlying5
  a5 := Tryz.isAgg5
  z5 := Tryz.sizeOf5
  v5 := Tryz.zeroValue5
  infoByte := by kernel_rfl
  cellsByte := by kernel_rfl
  sizeByte := by kernel_rfl
  neB5 := by decide }
open Go.RowKit in
/-- (*strings.Builder).String: "String returns the accumulated string.": OF A BUILDER THAT HOLDS AT LEAST ONE BYTE. ✋ THE MODEL FREEZES THOSE BYTES IN THE BUFFER (unsafe.String): a later write INTO them ends the model's run without an answer; a later append BEHIND them goes on. The statement's order of evaluation is drawn: one draw. (LAID: no walk: one application.) -/
theorem Tryz.Builder_String (B b : Nat) (l : List UInt8) (w : World) (h : Lib.IsBuilder 100 5 B b (Lib.byteCells l) w) (h0 : l ≠ []) :
    Calls Tryz.prog 48 #[.pointer (some ⟨b, 0, none⟩)] w fun e w' => e = .returned (.string ⟨l.toArray⟩) ∧ Below B w w' := Any.Builder_String Tryz.lays169 Tryz.Builder_Extra_169 B b l w h h0
open Go.RowKit in
/-- (*strings.Builder).String OF A BUILDER THAT HOLDS NO BYTE: the empty string. (Its buffer is nil, or a row of which it has taken nothing yet; where that row has NO capacity the model lays one new block for unsafe.SliceData's 'some address'.) One draw. (LAID: no walk: one application.) -/
theorem Tryz.Builder_String_empty (B b : Nat) (w : World) (h : Lib.IsBuilder 100 5 B b [] w) (hBw : B ≤ w.heap.size) :
    Calls Tryz.prog 48 #[.pointer (some ⟨b, 0, none⟩)] w fun e w' => e = .returned (.string ⟨#[]⟩) ∧ Below B w w' := Any.Builder_String_empty Tryz.lays169 Tryz.Builder_Extra_169 B b w h hBw
open Go.RowKit in
/-- (*strings.Builder).String: "String returns the accumulated string.": WHATEVER THE BUILDER HOLDS. (LAID: no walk: one application.) -/
theorem Tryz.Builder_String_any (B b : Nat) (l : List UInt8) (w : World) (h : Lib.IsBuilder 100 5 B b (Lib.byteCells l) w) (hBw : B ≤ w.heap.size) :
    Calls Tryz.prog 48 #[.pointer (some ⟨b, 0, none⟩)] w fun e w' => e = .returned (.string ⟨l.toArray⟩) ∧ Below B w w' := Any.Builder_String_any Tryz.lays169 Tryz.Builder_Extra_169 B b l w h hBw
end Go.Proofs
namespace Go.Proofs.YtldncgelghcjeaaGreatDoor
open Go.ChangeShapes Go.WideShapes Go.ChangeAt Go.RowKit Go.Shelf
set_option linter.unusedVariables false

theorem own : ownKnob Tryz.prog.godebug = none := by kernel_rfl
theorem laidOut : laidOutB Tryz.prog = true := by kernel_rfl
theorem first_eq : Rows.laid_unicode_utf8_first = Lib.firstData := by kernel_rfl
theorem accept_eq : (Rows.laid_unicode_utf8_acceptRanges : DataW Unit) = Lib.acceptData := by kernel_rfl
theorem u8types : U8Types Tryz.prog Tryz.laysValid_ren := U8Types.of196 Tryz.laysValid
abbrev UTabs (w : World) : Prop := Lib.Utf8Tabs (Tryz.laysValid_ren.g 3) (Tryz.laysValid_ren.g 4) w
def putCells (h : Array Obj) (g : Nat) (cs : Array Value) : Array Obj := h.modify g fun o => match o with
  | .cells _ t frozen => .cells cs t frozen
  | o => o
/-- The witness: the settled world, both tables as their text lays them. -/
noncomputable def laidWorld (os : Os) : World :=
  let w0 := World.holding Tryz.prog os ⟨#[], #[], []⟩
  { w0 with heap := putCells (putCells w0.heap 0 (Lib.firstTab.map fun z => Value.int .u8 z).toArray) 1 ((List.range 16).flatMap fun i => [Value.int .u8 (Lib.accLo i), Value.int .u8 (Lib.accHi i)]).toArray }
theorem laid_met3 (os : Os) (args : Array Value) : laidMet Tryz.prog Rows.ckthreeReadsRow.laid ((laidWorld os).forCall (fun _ _ => 0) ⟨#[], args, []⟩).memory :=
  (LaidIn.of_run (l := [("unicode/utf8.acceptRanges", Rows.laid_unicode_utf8_acceptRanges), ("unicode/utf8.first", Rows.laid_unicode_utf8_first)]) [1, 0] 8 (by kernel_rfl) (by kernel_rfl) (by kernel_rfl) (by kernel_rfl)).met
set_option maxRecDepth 100000 in
theorem utf8_tabs {W : World} (hL : laidMet Tryz.prog Rows.ckthreeReadsRow.laid W) : UTabs W :=
  utf8Tabs_of_readsT u8types ⟨by kernel_rfl, by kernel_rfl, by kernel_rfl, by kernel_rfl, by kernel_rfl, by kernel_rfl, by kernel_rfl⟩
    (by rw [← first_eq]; exact Lib.laidMet.reads hL (.tail _ (.head _))) (by rw [← accept_eq]; exact Lib.laidMet.reads hL (.head _))
theorem trod_low {H : Type} {enc : TypeId × Value → H} {W : World} {t : TypeId} {v : Value} {d : DataW H} {p : List MemPlace} (h : DataW.Trod enc Tryz.prog W 0 (fun _ => true) true t v d p) : ∀ x ∈ p, x.block < W.heap.size := by
  obtain ⟨m, hm⟩ := h
  exact DataW.trod_lt m _ _ _ hm
end Go.Proofs.YtldncgelghcjeaaGreatDoor
namespace Go.Proofs.YtldncgelghcjeaaGreatDoor
open Go.ChangeShapes Go.WideShapes Go.ChangeAt Go.RowKit

/-- Of what was there nothing has turned; there may be new blocks. -/
def Fresh (w w' : World) : Prop := Below w.heap.size w w'
theorem Fresh.refl (w : World) : Fresh w w := Below.refl _ _
theorem Fresh.trans {a b c : World} (h : Fresh a b) (k : Fresh b c) : Fresh a c := Below.trans h (Below.mono k h.size)
theorem Fresh.alloc {a b : World} (h : Fresh a b) (o : Obj) : Fresh a (b.alloc o) := Below.alloc h h.size o
theorem Fresh.setCell {a b : World} (h : Fresh a b) {p : Addr} (hp : a.heap.size ≤ p.block) (u : Value) : Fresh a (b.setCell p u) := Below.setCell h hp u
theorem Fresh.drew {a b : World} (h : Fresh a b) : Fresh a b.drew := Below.drew h
theorem Fresh.below {a b c : World} {B : Nat} (h : Fresh a b) (k : Below B b c) (hB : a.heap.size ≤ B) : Fresh a c := Below.trans h (Below.mono k hB)
theorem Fresh.grown {a b c : World} (h : Fresh a b) {row : Option Nat} (hg : b.grownBy c row) (hr : ∀ g, row = some g → a.heap.size ≤ g) : Fresh a c := Below.grown h hg h.size hr
theorem lt_of_at {w : World} {k : Nat} {o : Obj} (hk : w.heap[k]? = some o) : k < w.heap.size := (Array.getElem?_eq_some_iff.1 hk).1
theorem at_alloc {w : World} {k : Nat} {o p : Obj} (hk : w.heap[k]? = some o) : (w.alloc p).heap[k]? = some o := by
  rw [Below.heap_alloc _ _ _ (lt_of_at hk)]; exact hk
theorem at_new (w : World) (o : Obj) : (w.alloc o).heap[w.heap.size]? = some o := by
  show (w.heap.push o)[w.heap.size]? = _
  simp
theorem cell_of_at {w : World} {b : Nat} {cs : Array Value} {t : TypeId} {z : Nat × Nat} (h : w.heap[b]? = some (.cells cs t z)) {i : Nat} {v : Value} (hi : cs[i]? = some v) : w.cell? ⟨b, i, none⟩ = some v := by
  simp [World.cell?, h, hi]
theorem addr_add0 (b n : Nat) : (⟨b, 0, none⟩ : Addr).add n = ⟨b, n, none⟩ := by
  unfold Addr.add
  split <;> simp_all
theorem grown_set (w : World) (g o : Nat) (u : Value) : w.grownBy (w.setCell ⟨g, o, none⟩ u) (some g) :=
  ⟨rfl, rfl, rfl, by simp [World.setCell], fun k _ hk => Below.heap_setCell _ _ _ _ (fun e => hk (by rw [e]))⟩
theorem info5 : (Tryz.prog.info? 5).map (fun i => (i.zero, i.size, i.bytes)) = some (some (.int .u8 0), 1, 1) := by kernel_rfl
theorem ret_int {k : IntKind} {a b : Int} (h : a = b) : Ending.returned (.int k a) = .returned (.int k b) := by rw [h]
theorem ret_bool {a b : Bool} (h : a = b) : Ending.returned (.bool a) = .returned (.bool b) := by rw [h]
theorem ret_string {a b : ByteArray} (h : a = b) : Ending.returned (.string a) = .returned (.string b) := by rw [h]

/-! ### rows of bytes -/
/-- Bytes as they lie in a row's cells. -/
def vals (l : List UInt8) : List Value := l.map fun c => .int .u8 (c.toNat : Int)
theorem vals_length (l : List UInt8) : (vals l).length = l.length := by simp [vals]
theorem vals_append (l m : List UInt8) : vals (l ++ m) = vals l ++ vals m := by simp [vals]
theorem vals_one (l : List UInt8) : ∀ u ∈ vals l, u.oneCell' = true := fun u hu => by
  unfold vals at hu
  obtain ⟨c, _, rfl⟩ := List.mem_map.1 hu
  rfl
theorem vals_get (l : List UInt8) (j : Nat) (u : Value) (h : (vals l)[j]? = some u) : ∃ hj : j < l.length, u = .int .u8 (l[j].toNat : Int) := by
  unfold vals at h
  rw [List.getElem?_map] at h
  by_cases hj : j < l.length
  · rw [List.getElem?_eq_getElem hj] at h
    exact ⟨hj, (Option.some.inj h).symm⟩
  · rw [List.getElem?_eq_none (by omega)] at h
    cases h
/-- A row of bytes that the call owns, from block B on. -/
def Buf (w : World) (B : Nat) (v : Value) (l : List UInt8) : Prop := w.ownsRow B 5 1 v l.length (vals l)
theorem Buf.lt {w : World} {B : Nat} {v : Value} {l : List UInt8} (h : Buf w B v l) : ∀ g, v.ownBlock = some g → B ≤ g ∧ g < w.heap.size := World.ownsRow.lt h
theorem Buf.alloc {w : World} {B : Nat} {v : Value} {l : List UInt8} (h : Buf w B v l) (o : Obj) : Buf (w.alloc o) B v l := World.ownsRow.alloc h o
theorem Buf.drew {w : World} {B : Nat} {v : Value} {l : List UInt8} (h : Buf w B v l) : Buf w.drew B v l := h
theorem Buf.kept {w w' : World} {B : Nat} {v : Value} {l : List UInt8} {row : Option Nat} (h : Buf w B v l) (hg : w.grownBy w' row) (hne : v.ownBlock = none ∨ v.ownBlock ≠ row) : Buf w' B v l := World.ownsRow.kept h hg hne
theorem Buf.fresh {w w' : World} {B : Nat} {v : Value} {l : List UInt8} (h : Buf w B v l) (hf : Fresh w w') : Buf w' B v l := by
  refine World.ownsRow.kept (row := none) h ⟨hf.os, hf.tape, hf.output, hf.size, fun k hk _ => hf.block k hk⟩ ?_
  rcases h' : v.ownBlock with _ | g
  · exact .inl rfl
  · exact .inr (by simp)
/-- What an append leaves behind. -/
theorem Buf.more {w' : World} {B : Nat} {v : Value} {l m : List UInt8} {k : Nat} (h : w'.ownsRow B 5 1 v (l.length + k) (vals l ++ vals m)) (hk : m.length = k) : Buf w' B v (l ++ m) := by
  unfold Buf
  rw [vals_append, List.length_append, hk]
  exact h
/-- 'string(b)' of such a row. -/
theorem Buf.text {w : World} {B : Nat} {g : Nat} {c n : Nat} {l : List UInt8} (h : Buf w B (.slice (some ⟨g, 0, none⟩) n c) l) : n = l.length ∧ (convert 98 9 (.slice (some ⟨g, 0, none⟩) n c)).run Tryz.prog w = .ok (.string ⟨l.toArray⟩) w := by
  have hn : n = l.length := by
    obtain ⟨_, ⟨h1, _⟩ | ⟨g', cap, cur, h1, _⟩⟩ := h
    · cases h1
    · injection h1
  subst hn
  refine ⟨rfl, run_convert_bytes_back (P := Tryz.prog) w 98 9 5 ⟨g, 0, none⟩ c l Tryz.underlying98 Tryz.underlying5 Tryz.underlying9 (fun j hj => ?_)⟩
  exact World.ownsRow.cells h rfl j _ (by unfold vals; rw [List.getElem?_map, List.getElem?_eq_getElem hj]; rfl)
theorem text_nil (w : World) : (convert 98 9 (.slice none 0 0)).run Tryz.prog w = .ok (.string ⟨#[]⟩) w := by
  rw [run_convert_bytes_string (P := Tryz.prog) w 98 9 5 none 0 0 Tryz.underlying98 Tryz.underlying5 Tryz.underlying9]
  rfl

/-! ### what is quoted -/
def hexB (n : Nat) : UInt8 := UInt8.ofNat (if n < 10 then 48 + n else 87 + n)
/-- A byte, between quotes. -/
def qB (c : UInt8) : List UInt8 :=
  if c = 34 ∨ c = 92 then [92, c] else if c = 10 then [92, 110] else if c = 13 then [92, 114] else if c = 9 then [92, 116] else if c = 8 then [92, 98] else if c = 12 then [92, 102]
  else if c.toNat < 32 then [92, 117, 48, 48, hexB (c.toNat / 16), hexB (c.toNat % 16)] else [c]
def qL (l : List UInt8) : List UInt8 := l.flatMap qB
def quoted (l : List UInt8) : List UInt8 := 34 :: (qL l ++ [34])
theorem qL_snoc (l : List UInt8) (c : UInt8) : qL (l ++ [c]) = qL l ++ qB c := by simp [qL]
theorem qB_len (c : UInt8) : (qB c).length ≤ 6 := by
  unfold qB
  repeat' split
  all_goals simp
theorem qL_len (l : List UInt8) : (qL l).length ≤ 6 * l.length := by
  induction l with
  | nil => simp [qL]
  | cons c l ih =>
    have := qB_len c
    have e : qL (c :: l) = qB c ++ qL l := by simp [qL]
    rw [e, List.length_append, List.length_cons]
    omega
theorem take_snoc (s : ByteArray) (k : Nat) (h : k < s.size) : s.data.toList.take (k + 1) = s.data.toList.take k ++ [s[k]] := by
  rw [List.take_succ_eq_append_getElem (by simpa using h)]; rfl
theorem c_of {c : UInt8} {n : Nat} (h : c.toNat = n) : c = UInt8.ofNat n := by
  rw [← h]; simp
end Go.Proofs.YtldncgelghcjeaaGreatDoor
namespace Go.Proofs.YtldncgelghcjeaaGreatDoor

/-! ### what points part -/
def lnsA : List UInt8 → List UInt8 → List (List UInt8)
  | cur, [] => [cur]
  | cur, c :: r => if c = 46 then cur :: lnsA [] r else lnsA (cur ++ [c]) r
theorem lnsA_none : ∀ (a cur : List UInt8), (∀ c ∈ a, c ≠ 46) → lnsA cur a = [cur ++ a]
  | [], cur, _ => by simp [lnsA]
  | c :: r, cur, h => by
    rw [lnsA, if_neg (h c (by simp)), lnsA_none r _ (fun d hd => h d (by simp [hd]))]
    simp
theorem lnsA_cut : ∀ (a b cur : List UInt8), (∀ c ∈ a, c ≠ 46) → lnsA cur (a ++ 46 :: b) = (cur ++ a) :: lnsA [] b
  | [], b, cur, _ => by simp [lnsA]
  | c :: r, b, cur, h => by
    rw [List.cons_append, lnsA, if_neg (h c (by simp)), lnsA_cut r b _ (fun d hd => h d (by simp [hd]))]
    simp
theorem lnsA_ne (cur l : List UInt8) : lnsA cur l ≠ [] := by
  induction l generalizing cur with
  | nil => simp [lnsA]
  | cons c r ih =>
    rw [lnsA]
    split
    · simp
    · exact ih _
theorem lnsA_len (cur l : List UInt8) : (lnsA cur l).length ≤ l.length + 1 := by
  induction l generalizing cur with
  | nil => simp [lnsA]
  | cons c r ih =>
    rw [lnsA]
    split
    · have := ih []
      simp; omega
    · have := ih (cur ++ [c])
      simp; omega
theorem indexByte_none : ∀ (l : List UInt8) (c : UInt8), Go.Lib.indexByte l c = -1 → ∀ d ∈ l, d ≠ c
  | [], _, _, d, hd => by simp at hd
  | b :: l, c, h, d, hd => by
    have ge := Go.Lib.indexByte_ge l c
    unfold Go.Lib.indexByte at h
    by_cases hb : (b == c) = true
    · rw [if_pos hb] at h; omega
    · rw [if_neg hb] at h
      by_cases hx : (Go.Lib.indexByte l c == -1) = true
      · rcases List.mem_cons.1 hd with rfl | hd
        · simpa using hb
        · exact indexByte_none l c (by simpa using hx) d hd
      · rw [if_neg hx] at h
        have : Go.Lib.indexByte l c = -2 := by omega
        omega
theorem indexByte_some : ∀ (l : List UInt8) (c : UInt8) (k : Nat), Go.Lib.indexByte l c = k → k < l.length ∧ l = l.take k ++ c :: l.drop (k + 1) ∧ ∀ d ∈ l.take k, d ≠ c
  | [], _, k, h => by simp [Go.Lib.indexByte] at h
  | b :: l, c, k, h => by
    unfold Go.Lib.indexByte at h
    by_cases hb : (b == c) = true
    · rw [if_pos hb] at h
      obtain rfl : k = 0 := by omega
      have : b = c := by simpa using hb
      subst this
      simp
    · rw [if_neg hb] at h
      by_cases hx : (Go.Lib.indexByte l c == -1) = true
      · rw [if_pos hx] at h; omega
      · rw [if_neg hx] at h
        have ge := Go.Lib.indexByte_ge l c
        have hx' : Go.Lib.indexByte l c ≠ -1 := by simpa using hx
        obtain ⟨j, rfl⟩ : ∃ j, k = j + 1 := ⟨k - 1, by omega⟩
        obtain ⟨h1, h2, h3⟩ := indexByte_some l c j (by omega)
        refine ⟨by simp; omega, ?_, ?_⟩
        · simp only [List.take_succ_cons, List.drop_succ_cons, List.cons_append]
          rw [← h2]
        · intro d hd
          rw [List.take_succ_cons] at hd
          rcases List.mem_cons.1 hd with rfl | hd
          · simpa using hb
          · exact h3 d hd
theorem indexByte_cases (l : List UInt8) (c : UInt8) : Go.Lib.indexByte l c = -1 ∨ ∃ k : Nat, Go.Lib.indexByte l c = k := by
  have := Go.Lib.indexByte_ge l c
  by_cases h : Go.Lib.indexByte l c = -1
  · exact .inl h
  · exact .inr ⟨(Go.Lib.indexByte l c).toNat, by omega⟩


theorem lnsA_mem : ∀ (l c x : List UInt8), x ∈ lnsA c l → x.length ≤ c.length + l.length
  | [], c, x, h => by
    simp [lnsA] at h
    simp [h]
  | b :: r, c, x, h => by
    rw [lnsA] at h
    split at h
    · rcases List.mem_cons.1 h with rfl | h
      · omega
      · have := lnsA_mem r [] x h
        simp at this ⊢; omega
    · have := lnsA_mem r _ x h
      simp at this ⊢; omega
/-! ### which bytes may be -/
def smallB (c : UInt8) : Bool := decide (97 ≤ c.toNat) && decide (c.toNat ≤ 122)
def capB (c : UInt8) : Bool := decide (65 ≤ c.toNat) && decide (c.toNat ≤ 90)
def digB (c : UInt8) : Bool := decide (48 ≤ c.toNat) && decide (c.toNat ≤ 57)
def inL (c : UInt8) : Bool := smallB c || (digB c || c == 45)
def inV (c : UInt8) : Bool := smallB c || (capB c || (digB c || c == 95))
/-- A label. -/
def labB (l : List UInt8) : Bool := (decide (1 ≤ l.length) && decide (l.length ≤ 63)) && (l.head? != some 45 && (l.getLast? != some 45 && l.all inL))
/-- A name. -/
def nameB (l : List UInt8) : Bool := (decide (1 ≤ l.length) && decide (l.length ≤ 253)) && (lnsA [] l).all labB
theorem inL_point : inL 46 = false := by decide
theorem labB_point {l : List UInt8} (h : labB l = true) : ∀ c ∈ l, c ≠ 46 := fun c hc e => by
  unfold labB at h
  simp only [Bool.and_eq_true] at h
  have := List.all_eq_true.1 h.2.2.2 c hc
  rw [e, inL_point] at this
  cases this
theorem labB_len {l : List UInt8} (h : labB l = true) : 1 ≤ l.length ∧ l.length ≤ 63 := by
  unfold labB at h
  simp only [Bool.and_eq_true, decide_eq_true_eq] at h
  exact h.1
/-- Parts, a point between each two. -/
def joinF : List (List UInt8) → List UInt8
  | [] => []
  | x :: r => r.foldl (fun s p => s ++ (46 :: p)) x
theorem lnsA_app : ∀ (a b cur : List UInt8), lnsA cur (a ++ 46 :: b) = lnsA cur a ++ lnsA [] b
  | [], b, cur => by simp [lnsA]
  | c :: r, b, cur => by
    rw [List.cons_append, lnsA, lnsA]
    by_cases h : c = 46
    · rw [if_pos h, if_pos h, lnsA_app r b []]; rfl
    · rw [if_neg h, if_neg h, lnsA_app r b _]
theorem join_fold : ∀ (r : List (List UInt8)) (s t : List UInt8), r.foldl (fun s p => s ++ (46 :: p)) (s ++ t) = s ++ r.foldl (fun s p => s ++ (46 :: p)) t
  | [], s, t => rfl
  | x :: r, s, t => by
    simp only [List.foldl_cons]
    rw [List.append_assoc, join_fold r s]
theorem join_lns : ∀ (l cur : List UInt8), joinF (lnsA cur l) = cur ++ l
  | [], cur => by simp [lnsA, joinF]
  | c :: r, cur => by
    rw [lnsA]
    by_cases h : c = 46
    · subst h
      rw [if_pos rfl]
      have ih := join_lns r []
      rcases hx : lnsA [] r with _ | ⟨x, t⟩
      · exact absurd hx (lnsA_ne _ _)
      · rw [hx] at ih
        show (t.foldl (fun s p => s ++ (46 :: p)) (cur ++ (46 :: x))) = _
        rw [show cur ++ 46 :: x = (cur ++ [46]) ++ x by simp, join_fold]
        have ih' : t.foldl (fun s p => s ++ (46 :: p)) x = r := by simpa [joinF] using ih
        rw [ih']; simp
    · rw [if_neg h, join_lns r]
      simp
/-- What the law's own loop makes of the parts that have come. -/
theorem joinF_snoc (l : List (List UInt8)) (x : List UInt8) : joinF (l ++ [x]) = if l = [] then x else joinF l ++ (46 :: x) := by
  cases l with
  | nil => simp [joinF]
  | cons y r => simp [joinF]
/-- One part: a label. -/
theorem one_label {l : List UInt8} (h : nameB l = true) : (decide ((lnsA [] l).length = 1)) = labB l := by
  unfold nameB at h
  simp only [Bool.and_eq_true] at h
  have hall := h.2
  cases hl : labB l with
  | true =>
    rw [lnsA_none l [] (labB_point hl)]
    simp
  | false =>
    rw [decide_eq_false_iff_not]
    intro h1
    have hj := join_lns l []
    rcases hx : lnsA [] l with _ | ⟨x, t⟩
    · exact absurd hx (lnsA_ne _ _)
    · rw [hx] at h1 hall hj
      obtain rfl : t = [] := by
        simpa using h1
      have : x = l := by simpa [joinF] using hj
      subst this
      simp [hl] at hall
/-- Two names, a point between. -/
theorem both_names (a b : List UInt8) (h : a.length + 1 + b.length ≤ 253) : nameB (a ++ 46 :: b) = (nameB a && nameB b) := by
  have key : ∀ l : List UInt8, l.length ≤ 253 → nameB l = (lnsA [] l).all labB := fun l hl => by
    unfold nameB
    cases l with
    | nil => simp [lnsA, labB]
    | cons c r =>
      rw [decide_eq_true (by simp), decide_eq_true hl]
      simp
  rw [key _ (by simp; omega), key a (by omega), key b (by omega), lnsA_app, List.all_append]
end Go.Proofs.YtldncgelghcjeaaGreatDoor
namespace Go.Proofs.YtldncgelghcjeaaGreatDoor
open Go.ChangeShapes Go.WideShapes Go.ChangeAt Go.RowKit

def tx (l : List UInt8) : ByteArray := ⟨l.toArray⟩
theorem tx_toList (l : List UInt8) : (tx l).data.toList = l := by simp [tx]
theorem tx_size (l : List UInt8) : (tx l).size = l.length := by simp [tx, ByteArray.size]
theorem tx_of (s : ByteArray) : tx s.data.toList = s := by
  cases s; rfl
theorem tx_extract (s : ByteArray) (a b : Nat) : s.extract a b = tx ((s.data.toList.drop a).take (b - a)) := by
  conv => lhs; rw [← tx_of s]
  rw [Lib.extract_eq]; rfl
/-! ### rows of texts -/
def scells (l : List (List UInt8)) : List Value := l.map fun x => .string (tx x)
theorem scells_snoc (l : List (List UInt8)) (x : List UInt8) : scells (l ++ [x]) = scells l ++ [.string (tx x)] := by simp [scells]
/-- A row of texts that the call owns, from block B on. -/
def SBuf (w : World) (B : Nat) (v : Value) (l : List (List UInt8)) : Prop := w.ownsRow B 9 1 v l.length (scells l)
theorem SBuf.lt {w : World} {B : Nat} {v : Value} {l : List (List UInt8)} (h : SBuf w B v l) : ∀ g, v.ownBlock = some g → B ≤ g ∧ g < w.heap.size := World.ownsRow.lt h
theorem SBuf.fresh {w w' : World} {B : Nat} {v : Value} {l : List (List UInt8)} (h : SBuf w B v l) (hf : Fresh w w') : SBuf w' B v l := by
  refine World.ownsRow.kept (row := none) h ⟨hf.os, hf.tape, hf.output, hf.size, fun k hk _ => hf.block k hk⟩ ?_
  rcases h' : v.ownBlock with _ | g
  · exact .inl rfl
  · exact .inr (by simp)
theorem SBuf.more {w' : World} {B : Nat} {v : Value} {l : List (List UInt8)} {x : List UInt8} (h : w'.ownsRow B 9 1 v (l.length + 1) (scells l ++ [.string (tx x)])) : SBuf w' B v (l ++ [x]) := by
  unfold SBuf
  rw [scells_snoc, List.length_append]
  exact h
theorem scells_get (l : List (List UInt8)) (j : Nat) (h : j < l.length) : (scells l)[j]? = some (.string (tx l[j])) := by
  unfold scells
  rw [List.getElem?_map, List.getElem?_eq_getElem h]; rfl
theorem SBuf.cell {w : World} {B g n cap : Nat} {l : List (List UInt8)} (h : SBuf w B (.slice (some ⟨g, 0, none⟩) n cap) l) (j : Nat) (hj : j < l.length) : w.cell? ⟨g, j, none⟩ = some (.string (tx l[j])) := by
  have := World.ownsRow.cells h rfl j _ (scells_get l j hj)
  rwa [addr_add0] at this
theorem info9 : (Tryz.prog.info? 9).map (fun i => (i.zero, i.size, i.bytes)) = some (some (.string ⟨#[]⟩), 1, 16) := by kernel_rfl
end Go.Proofs.YtldncgelghcjeaaGreatDoor
namespace Go.Proofs.YtldncgelghcjeaaGreatDoor

/-- A container; its texts as they are. -/
structure Ct where
  name : ByteArray
  image : ByteArray
  cmd : List ByteArray
  ports : List (Int × Int)
  cpu : Int
  mem : Int
  env : List (ByteArray × ByteArray)
/-- A pod. -/
structure Pd where
  name : ByteArray
  ns : ByteArray
  restart : Int
  grace : Int
  host : Bool
  cs : List Ct

/-! ### names -/
def inI (c : UInt8) : Bool := smallB c || (capB c || (digB c || (c == 46 || (c == 95 || (c == 45 || (c == 47 || (c == 58 || c == 64)))))))
def varB (l : List UInt8) : Bool := (decide (1 ≤ l.length) && decide (l.length ≤ 63)) && (!digB (l.headD 0) && l.all inV)
def imgB (l : List UInt8) : Bool := (decide (1 ≤ l.length) && decide (l.length ≤ 255)) && ((smallB (l.headD 0) || digB (l.headD 0)) && l.all inI)

/-! ### what is wrong: the code -/
def textE (s : ByteArray) : Int := if Lib.validD s.data.toList = true then (if 4096 < s.size then 2 else 0) else 10
def memT (s : ByteArray) (l : List ByteArray) : Bool := l.any fun t => decide (t = s)
def memP (s : Int × Int) (l : List (Int × Int)) : Bool := l.any fun t => decide (t = s)
def cmdE : List ByteArray → Int
  | [] => 0
  | s :: r => if textE s = 0 then cmdE r else textE s
def portBad (p : Int × Int) : Bool := decide (p.1 < 1) || (decide (65535 < p.1) || (decide (p.2 < 0) || decide (1 < p.2)))
def portsE : List (Int × Int) → List (Int × Int) → Int
  | _, [] => 0
  | ahead, p :: r => if portBad p = true then 7 else if memP p ahead = true then 8 else portsE (ahead ++ [p]) r
def envE : List ByteArray → List (ByteArray × ByteArray) → Int
  | _, [] => 0
  | ahead, v :: r => if varB v.1.data.toList = true then (if memT v.1 ahead = true then 8 else if textE v.2 = 0 then envE (ahead ++ [v.1]) r else textE v.2) else 13
def manyE (c : Ct) : Bool := decide (16 < c.cmd.length) || (decide (16 < c.ports.length) || decide (16 < c.env.length))
def rangeE (c : Ct) : Bool := decide (c.cpu < 1) || (decide (64000 < c.cpu) || (decide (c.mem < 1) || decide (1048576 < c.mem)))
/-- Behind its name. -/
def restE (c : Ct) : Int :=
  if imgB c.image.data.toList = true then
    (if manyE c = true then 18 else if rangeE c = true then 7 else if cmdE c.cmd = 0 then (if portsE [] c.ports = 0 then envE [] c.env else portsE [] c.ports) else cmdE c.cmd)
  else 6
def ctE (ahead : List ByteArray) (c : Ct) : Int := if labB c.name.data.toList = true then (if memT c.name ahead = true then 8 else restE c) else 13
def csE : List ByteArray → List Ct → Int
  | _, [] => 0
  | ahead, c :: r => if ctE ahead c = 0 then csE (ahead ++ [c.name]) r else ctE ahead c
def headE (p : Pd) : Int :=
  if nameB p.name.data.toList = true ∧ labB p.ns.data.toList = true then
    (if p.restart < 0 ∨ 2 < p.restart ∨ p.grace < 1 ∨ 3600 < p.grace then 7 else if p.cs.length = 0 then 16 else if 16 < p.cs.length then 18 else 0)
  else 13
def podE (p : Pd) : Int := if headE p = 0 then csE [] p.cs else headE p

/-! ### defaults -/
def nsDef : ByteArray := ⟨#[100, 101, 102, 97, 117, 108, 116]⟩
def defC (c : Ct) : Ct := { c with cpu := if c.cpu = 0 then 100 else c.cpu, mem := if c.mem = 0 then 64 else c.mem }
def defP (p : Pd) : Pd := { p with ns := if p.ns.size = 0 then nsDef else p.ns, grace := if p.grace = 0 then 30 else p.grace, cs := p.cs.map defC }
theorem defC_twice (c : Ct) : defC (defC c) = defC c := by
  unfold defC
  dsimp only
  congr 1
  · split <;> simp_all
  · split <;> simp_all
theorem defP_twice (p : Pd) : defP (defP p) = defP p := by
  unfold defP
  dsimp only
  have h1 : (List.map defC (List.map defC p.cs)) = List.map defC p.cs := by
    rw [List.map_map]
    exact List.map_congr_left (fun c _ => defC_twice c)
  rw [h1]
  congr 1
  · by_cases h : p.ns.size = 0
    · rw [if_pos h, if_neg (by decide)]
    · rw [if_neg h, if_neg h]
  · split <;> simp_all
theorem csE_def : ∀ (r : List Ct) (ahead : List ByteArray), csE ahead r = 0 → r.map defC = r
  | [], _, _ => rfl
  | c :: r, ahead, h => by
    rw [csE] at h
    by_cases h0 : ctE ahead c = 0
    · rw [if_pos h0] at h
      rw [List.map_cons, csE_def r _ h]
      congr 1
      have hr : rangeE c = false := by
        cases hr : rangeE c with
        | false => rfl
        | true =>
          exfalso
          unfold ctE restE at h0
          split at h0
          · split at h0
            · omega
            · split at h0
              · split at h0
                · omega
                · simp [hr] at h0
              · omega
          · omega
      unfold rangeE at hr
      simp only [Bool.or_eq_false_iff, decide_eq_false_iff_not] at hr
      unfold defC
      rw [if_neg (by omega), if_neg (by omega)]
    · rw [if_neg h0] at h; exact absurd h h0
theorem podE_def (p : Pd) (h : podE p = 0) : defP p = p := by
  unfold podE at h
  by_cases h0 : headE p = 0
  · rw [if_pos h0] at h
    unfold headE at h0
    split at h0
    · rename_i hn
      split at h0
      · omega
      · unfold defP
        rw [csE_def _ _ h, if_neg (by
          have h1 := (labB_len hn.2).1
          have h2 : p.ns.data.toList.length = p.ns.size := by simp
          omega), if_neg (by omega)]
    · omega
  · rw [if_neg h0] at h; exact absurd h h0

/-! ### alike -/
def sameC (a b : Ct) : Bool := decide (a.name = b.name) && (decide (a.image = b.image) && (decide (a.cmd = b.cmd) && (decide (a.ports = b.ports) && (decide (a.cpu = b.cpu) && (decide (a.mem = b.mem) && decide (a.env = b.env))))))
theorem sameC_eq (a b : Ct) : sameC a b = true ↔ a = b := by
  obtain ⟨n, i, c, p, u, m, e⟩ := a
  obtain ⟨n', i', c', p', u', m', e'⟩ := b
  unfold sameC
  simp only [Bool.and_eq_true, decide_eq_true_eq, Ct.mk.injEq]
def sameL : List Ct → List Ct → Bool
  | [], [] => true
  | a :: r, b :: t => sameC a b && sameL r t
  | _, _ => false
theorem sameL_eq : ∀ (r t : List Ct), sameL r t = true ↔ r = t
  | [], [] => by simp [sameL]
  | [], b :: t => by simp [sameL]
  | a :: r, [] => by simp [sameL]
  | a :: r, b :: t => by
    rw [sameL, Bool.and_eq_true, sameC_eq, sameL_eq r t, List.cons.injEq]
def sameP (a b : Pd) : Bool := decide (a.name = b.name) && (decide (a.ns = b.ns) && (decide (a.restart = b.restart) && (decide (a.grace = b.grace) && (decide (a.host = b.host) && sameL a.cs b.cs))))
theorem sameP_eq (a b : Pd) : sameP a b = true ↔ a = b := by
  obtain ⟨n, s, r, g, h, c⟩ := a
  obtain ⟨n', s', r', g', h', c'⟩ := b
  unfold sameP
  simp only [Bool.and_eq_true, decide_eq_true_eq, sameL_eq, Pd.mk.injEq]
theorem sameP_refl (a : Pd) : sameP a a = true := (sameP_eq a a).2 rfl
end Go.Proofs.YtldncgelghcjeaaGreatDoor
