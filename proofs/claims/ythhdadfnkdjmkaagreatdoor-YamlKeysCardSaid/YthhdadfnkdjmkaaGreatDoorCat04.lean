/-
  DERIVED: THE SHELF's CONTRACTS AT THIS DUMP, IN PLAIN WORDS (tools/lay-plain.mjs out of 'TryzShelf.lean', which tools/lay-shelf.mjs wrote): THE SAME DECLARATIONS UNDER THE SAME NAMES: 'import', 'namespace', 'open', 'def', 'theorem' AND NOTHING ELSE: no command of the shelf's: FOR A HAND-IN. Each laying: the table of numbers ('.._ren') and one theorem, a field a fact of the dump's own or the kernel's comparison; each contract: ONE APPLICATION.
  Texts: whether they are valid, and what is wrong with them, by package value and by the document.
  Package value: alike, and the library's EqualFunc over values and over keys.
-/
import Derived.Shelf.Small.Strs
import Derived.Shelf.Unicode.DecodeAny
import Derived.Shelf.Unicode.ValidAny
import Derived.Shelf.Utf8.AppendRunePlain
import Derived.Shelf.Strings.Trim
import Derived.Shelf.Strings.Prefix
import Derived.Shelf.Strings.Search2
import Derived.Shelf.Strings.Cut
import Derived.Shelf.Small.Wraps
import Derived.Shelf.Strconv.ErrVarParseInt
import Derived.Test.YthhdadfnkdjmkaaGreatDoorProg
import Derived.Ground.NamesProg
import Derived.Test.YthhdadfnkdjmkaaGreatDoorCat02
import Derived.Deep.DeepCutAuto
import Derived.Deep.CutRange
import Derived.Deep.CutBlock
import Derived.Test.YthhdadfnkdjmkaaGreatDoorCat03
namespace Go.Proofs
open Go.Shelf
def Tryz.laysIndex_ren : Go.Shelf.Ren := ⟨fun | 137 => 65 | 217 => 92 | 266 => 120 | n => n, fun | 9 => 9 | 5 => 5 | 3 => 3 | n => n, fun | n => n⟩
theorem Tryz.laysIndex : Go.Proofs.Lays.n137 Tryz.prog Tryz.laysIndex_ren := {
  mixed := by kernel_rfl
  f137 := Tryz.func65.trans (congrArg some (by kernel_rfl))
  f217 := Tryz.func92.trans (congrArg some (by kernel_rfl))
  f266 := Tryz.func120.trans (congrArg some (by kernel_rfl))
  t3 := Tryz.underlying3
  a3 := Tryz.isAgg3
  z3 := Tryz.sizeOf3
  v3 := Tryz.zeroValue3
  t5 := Tryz.underlying5
  a5 := Tryz.isAgg5
  z5 := Tryz.sizeOf5
  v5 := Tryz.zeroValue5
  t9 := Tryz.underlying9
  a9 := Tryz.isAgg9
  z9 := Tryz.sizeOf9
  v9 := Tryz.zeroValue9 }
def Tryz.laysDecode_ren : Go.Shelf.Ren := ⟨fun | 197 => 128 | 260 => 146 | n => n, fun | 9 => 9 | 21 => 21 | 3 => 3 | 4 => 4 | 5 => 5 | 105 => 177 | 119 => 182 | 0 => 0 | 46 => 179 | 139 => 185 | 138 => 184 | n => n, fun | 3 => 0 | 4 => 1 | n => n⟩
theorem Tryz.laysDecode : Go.Proofs.Lays.n197 Tryz.prog Tryz.laysDecode_ren := {
  mixed := by kernel_rfl
  f197 := Tryz.func128.trans (congrArg some (by kernel_rfl))
  f260 := Tryz.func146.trans (congrArg some (by kernel_rfl))
  t0 := Tryz.underlying0
  a0 := Tryz.isAgg0
  z0 := Tryz.sizeOf0
  v0 := Tryz.zeroValue0
  t3 := Tryz.underlying3
  a3 := Tryz.isAgg3
  z3 := Tryz.sizeOf3
  v3 := Tryz.zeroValue3
  t4 := Tryz.underlying4
  a4 := Tryz.isAgg4
  z4 := Tryz.sizeOf4
  v4 := Tryz.zeroValue4
  t5 := Tryz.underlying5
  a5 := Tryz.isAgg5
  z5 := Tryz.sizeOf5
  v5 := Tryz.zeroValue5
  t9 := Tryz.underlying9
  a9 := Tryz.isAgg9
  z9 := Tryz.sizeOf9
  v9 := Tryz.zeroValue9
  t21 := Tryz.underlying21
  a21 := Tryz.isAgg21
  z21 := Tryz.sizeOf21
  v21 := Tryz.zeroValue21
  t46 := Tryz.underlying179
  a46 := Tryz.isAgg179
  z46 := Tryz.sizeOf179
  v46 := Tryz.zeroValue179
  t105 := Tryz.underlying177
  a105 := Tryz.isAgg177
  z105 := Tryz.sizeOf177
  v105 := Tryz.zeroValue177
  t119 := Tryz.underlying182
  a119 := Tryz.isAgg182
  z119 := Tryz.sizeOf182
  t138 := Tryz.underlying184
  a138 := Tryz.isAgg184
  z138 := Tryz.sizeOf184
  v138 := Tryz.zeroValue184
  t139 := Tryz.underlying185
  a139 := Tryz.isAgg185
  z139 := Tryz.sizeOf185
  v139 := Tryz.zeroValue185
  g3 := by kernel_rfl
  g4 := by kernel_rfl }
def Tryz.laysValid_ren : Go.Shelf.Ren := ⟨fun | 196 => 104 | 259 => 130 | n => n, fun | 9 => 9 | 4 => 4 | 3 => 3 | 5 => 5 | 12 => 12 | 119 => 182 | 0 => 0 | 46 => 179 | 139 => 185 | 138 => 184 | 53 => 193 | n => n, fun | 3 => 0 | 4 => 1 | n => n⟩
theorem Tryz.laysValid : Go.Proofs.Lays.n196 Tryz.prog Tryz.laysValid_ren := {
  mixed := by kernel_rfl
  f196 := Tryz.func104.trans (congrArg some (by kernel_rfl))
  f259 := Tryz.func130.trans (congrArg some (by kernel_rfl))
  t0 := Tryz.underlying0
  a0 := Tryz.isAgg0
  z0 := Tryz.sizeOf0
  v0 := Tryz.zeroValue0
  t3 := Tryz.underlying3
  a3 := Tryz.isAgg3
  z3 := Tryz.sizeOf3
  v3 := Tryz.zeroValue3
  t4 := Tryz.underlying4
  a4 := Tryz.isAgg4
  z4 := Tryz.sizeOf4
  v4 := Tryz.zeroValue4
  t5 := Tryz.underlying5
  a5 := Tryz.isAgg5
  z5 := Tryz.sizeOf5
  v5 := Tryz.zeroValue5
  t9 := Tryz.underlying9
  a9 := Tryz.isAgg9
  z9 := Tryz.sizeOf9
  v9 := Tryz.zeroValue9
  t12 := Tryz.underlying12
  a12 := Tryz.isAgg12
  z12 := Tryz.sizeOf12
  v12 := Tryz.zeroValue12
  t46 := Tryz.underlying179
  a46 := Tryz.isAgg179
  z46 := Tryz.sizeOf179
  v46 := Tryz.zeroValue179
  t53 := Tryz.underlying193
  a53 := Tryz.isAgg193
  z53 := Tryz.sizeOf193
  v53 := Tryz.zeroValue193
  t119 := Tryz.underlying182
  a119 := Tryz.isAgg182
  z119 := Tryz.sizeOf182
  t138 := Tryz.underlying184
  a138 := Tryz.isAgg184
  z138 := Tryz.sizeOf184
  v138 := Tryz.zeroValue184
  t139 := Tryz.underlying185
  a139 := Tryz.isAgg185
  z139 := Tryz.sizeOf185
  v139 := Tryz.zeroValue185
  g3 := by kernel_rfl
  g4 := by kernel_rfl }
def Tryz.laysRune_ren : Go.Shelf.Ren := ⟨fun | 242 => 162 | 278 => 170 | n => n, fun | 37 => 145 | 21 => 21 | 51 => 206 | 4 => 4 | 5 => 5 | 46 => 179 | n => n, fun | n => n⟩
theorem Tryz.laysRune : Go.Proofs.Lays.n242 Tryz.prog Tryz.laysRune_ren := {
  mixed := by kernel_rfl
  f242 := Tryz.func162.trans (congrArg some (by kernel_rfl))
  f278 := Tryz.func170.trans (congrArg some (by kernel_rfl))
  t4 := Tryz.underlying4
  a4 := Tryz.isAgg4
  z4 := Tryz.sizeOf4
  v4 := Tryz.zeroValue4
  t5 := Tryz.underlying5
  a5 := Tryz.isAgg5
  z5 := Tryz.sizeOf5
  v5 := Tryz.zeroValue5
  t21 := Tryz.underlying21
  a21 := Tryz.isAgg21
  z21 := Tryz.sizeOf21
  v21 := Tryz.zeroValue21
  t37 := Tryz.underlying145
  a37 := Tryz.isAgg145
  z37 := Tryz.sizeOf145
  v37 := Tryz.zeroValue145
  t46 := Tryz.underlying179
  a46 := Tryz.isAgg179
  z46 := Tryz.sizeOf179
  v46 := Tryz.zeroValue179
  t51 := Tryz.underlying206
  a51 := Tryz.isAgg206
  z51 := Tryz.sizeOf206
  v51 := Tryz.zeroValue206 }
def Tryz.laysTrimL_ren : Go.Shelf.Ren := ⟨fun | 161 => 109 | 231 => 134 | 227 => 106 | 233 => 135 | 235 => 136 | 228 => 131 | 197 => 128 | 151 => 133 | 260 => 146 | 152 => 151 | 137 => 65 | 119 => 164 | 224 => 148 | 225 => 147 | 217 => 92 | 266 => 120 | n => n, fun | 9 => 9 | 4 => 4 | 3 => 3 | 5 => 5 | 117 => 158 | 116 => 157 | 0 => 0 | 124 => 161 | 105 => 177 | 21 => 21 | 119 => 182 | 46 => 179 | 139 => 185 | 138 => 184 | n => n, fun | 3 => 0 | 4 => 1 | n => n⟩
theorem Tryz.laysTrimL : Go.Proofs.Lays.n161 Tryz.prog Tryz.laysTrimL_ren := {
  mixed := by kernel_rfl
  f119 := Tryz.func164.trans (congrArg some (by kernel_rfl))
  f137 := Tryz.func65.trans (congrArg some (by kernel_rfl))
  f151 := Tryz.func133.trans (congrArg some (by kernel_rfl))
  f152 := Tryz.func151.trans (congrArg some (by kernel_rfl))
  f161 := Tryz.func109.trans (congrArg some (by kernel_rfl))
  f197 := Tryz.func128.trans (congrArg some (by kernel_rfl))
  f217 := Tryz.func92.trans (congrArg some (by kernel_rfl))
  f224 := Tryz.func148.trans (congrArg some (by kernel_rfl))
  f225 := Tryz.func147.trans (congrArg some (by kernel_rfl))
  f227 := Tryz.func106.trans (congrArg some (by kernel_rfl))
  f228 := Tryz.func131.trans (congrArg some (by kernel_rfl))
  f231 := Tryz.func134.trans (congrArg some (by kernel_rfl))
  f233 := Tryz.func135.trans (congrArg some (by kernel_rfl))
  f235 := Tryz.func136.trans (congrArg some (by kernel_rfl))
  f260 := Tryz.func146.trans (congrArg some (by kernel_rfl))
  f266 := Tryz.func120.trans (congrArg some (by kernel_rfl))
  t0 := Tryz.underlying0
  a0 := Tryz.isAgg0
  z0 := Tryz.sizeOf0
  v0 := Tryz.zeroValue0
  t3 := Tryz.underlying3
  a3 := Tryz.isAgg3
  z3 := Tryz.sizeOf3
  v3 := Tryz.zeroValue3
  t4 := Tryz.underlying4
  a4 := Tryz.isAgg4
  z4 := Tryz.sizeOf4
  v4 := Tryz.zeroValue4
  t5 := Tryz.underlying5
  a5 := Tryz.isAgg5
  z5 := Tryz.sizeOf5
  v5 := Tryz.zeroValue5
  t9 := Tryz.underlying9
  a9 := Tryz.isAgg9
  z9 := Tryz.sizeOf9
  v9 := Tryz.zeroValue9
  t21 := Tryz.underlying21
  a21 := Tryz.isAgg21
  z21 := Tryz.sizeOf21
  v21 := Tryz.zeroValue21
  t46 := Tryz.underlying179
  a46 := Tryz.isAgg179
  z46 := Tryz.sizeOf179
  v46 := Tryz.zeroValue179
  t105 := Tryz.underlying177
  a105 := Tryz.isAgg177
  z105 := Tryz.sizeOf177
  v105 := Tryz.zeroValue177
  t116 := Tryz.underlying157
  a116 := Tryz.isAgg157
  z116 := Tryz.sizeOf157
  t117 := Tryz.underlying158
  a117 := Tryz.isAgg158
  z117 := Tryz.sizeOf158
  v117 := Tryz.zeroValue158
  t119 := Tryz.underlying182
  a119 := Tryz.isAgg182
  z119 := Tryz.sizeOf182
  t124 := Tryz.underlying161
  a124 := Tryz.isAgg161
  z124 := Tryz.sizeOf161
  v124 := Tryz.zeroValue161
  t138 := Tryz.underlying184
  a138 := Tryz.isAgg184
  z138 := Tryz.sizeOf184
  v138 := Tryz.zeroValue184
  t139 := Tryz.underlying185
  a139 := Tryz.isAgg185
  z139 := Tryz.sizeOf185
  v139 := Tryz.zeroValue185
  g3 := by kernel_rfl
  g4 := by kernel_rfl }
def Tryz.laysTrimR_ren : Go.Shelf.Ren := ⟨fun | 162 => 79 | 232 => 105 | 227 => 106 | 234 => 107 | 236 => 108 | 228 => 131 | 271 => 132 | 151 => 133 | 120 => 150 | 197 => 128 | 152 => 151 | 260 => 146 | 137 => 65 | 119 => 164 | 224 => 148 | 225 => 147 | 217 => 92 | 266 => 120 | n => n, fun | 9 => 9 | 4 => 4 | 3 => 3 | 5 => 5 | 117 => 158 | 116 => 157 | 0 => 0 | 124 => 161 | 21 => 21 | 105 => 177 | 46 => 179 | 119 => 182 | 139 => 185 | 138 => 184 | n => n, fun | 3 => 0 | 4 => 1 | n => n⟩
theorem Tryz.laysTrimR : Go.Proofs.Lays.n162 Tryz.prog Tryz.laysTrimR_ren := {
  mixed := by kernel_rfl
  f119 := Tryz.func164.trans (congrArg some (by kernel_rfl))
  f120 := Tryz.func150.trans (congrArg some (by kernel_rfl))
  f137 := Tryz.func65.trans (congrArg some (by kernel_rfl))
  f151 := Tryz.func133.trans (congrArg some (by kernel_rfl))
  f152 := Tryz.func151.trans (congrArg some (by kernel_rfl))
  f162 := Tryz.func79.trans (congrArg some (by kernel_rfl))
  f197 := Tryz.func128.trans (congrArg some (by kernel_rfl))
  f217 := Tryz.func92.trans (congrArg some (by kernel_rfl))
  f224 := Tryz.func148.trans (congrArg some (by kernel_rfl))
  f225 := Tryz.func147.trans (congrArg some (by kernel_rfl))
  f227 := Tryz.func106.trans (congrArg some (by kernel_rfl))
  f228 := Tryz.func131.trans (congrArg some (by kernel_rfl))
  f232 := Tryz.func105.trans (congrArg some (by kernel_rfl))
  f234 := Tryz.func107.trans (congrArg some (by kernel_rfl))
  f236 := Tryz.func108.trans (congrArg some (by kernel_rfl))
  f260 := Tryz.func146.trans (congrArg some (by kernel_rfl))
  f266 := Tryz.func120.trans (congrArg some (by kernel_rfl))
  f271 := Tryz.func132.trans (congrArg some (by kernel_rfl))
  t0 := Tryz.underlying0
  a0 := Tryz.isAgg0
  z0 := Tryz.sizeOf0
  v0 := Tryz.zeroValue0
  t3 := Tryz.underlying3
  a3 := Tryz.isAgg3
  z3 := Tryz.sizeOf3
  v3 := Tryz.zeroValue3
  t4 := Tryz.underlying4
  a4 := Tryz.isAgg4
  z4 := Tryz.sizeOf4
  v4 := Tryz.zeroValue4
  t5 := Tryz.underlying5
  a5 := Tryz.isAgg5
  z5 := Tryz.sizeOf5
  v5 := Tryz.zeroValue5
  t9 := Tryz.underlying9
  a9 := Tryz.isAgg9
  z9 := Tryz.sizeOf9
  v9 := Tryz.zeroValue9
  t21 := Tryz.underlying21
  a21 := Tryz.isAgg21
  z21 := Tryz.sizeOf21
  v21 := Tryz.zeroValue21
  t46 := Tryz.underlying179
  a46 := Tryz.isAgg179
  z46 := Tryz.sizeOf179
  v46 := Tryz.zeroValue179
  t105 := Tryz.underlying177
  a105 := Tryz.isAgg177
  z105 := Tryz.sizeOf177
  v105 := Tryz.zeroValue177
  t116 := Tryz.underlying157
  a116 := Tryz.isAgg157
  z116 := Tryz.sizeOf157
  t117 := Tryz.underlying158
  a117 := Tryz.isAgg158
  z117 := Tryz.sizeOf158
  v117 := Tryz.zeroValue158
  t119 := Tryz.underlying182
  a119 := Tryz.isAgg182
  z119 := Tryz.sizeOf182
  t124 := Tryz.underlying161
  a124 := Tryz.isAgg161
  z124 := Tryz.sizeOf161
  v124 := Tryz.zeroValue161
  t138 := Tryz.underlying184
  a138 := Tryz.isAgg184
  z138 := Tryz.sizeOf184
  v138 := Tryz.zeroValue184
  t139 := Tryz.underlying185
  a139 := Tryz.isAgg185
  z139 := Tryz.sizeOf185
  v139 := Tryz.zeroValue185
  g3 := by kernel_rfl
  g4 := by kernel_rfl }
def Tryz.laysTrimB_ren : Go.Shelf.Ren := ⟨fun | 160 => 115 | 232 => 105 | 231 => 134 | 227 => 106 | 234 => 107 | 233 => 135 | 236 => 108 | 235 => 136 | 228 => 131 | 271 => 132 | 151 => 133 | 197 => 128 | 120 => 150 | 152 => 151 | 260 => 146 | 137 => 65 | 119 => 164 | 224 => 148 | 225 => 147 | 217 => 92 | 266 => 120 | n => n, fun | 9 => 9 | 4 => 4 | 3 => 3 | 5 => 5 | 117 => 158 | 116 => 157 | 0 => 0 | 124 => 161 | 21 => 21 | 105 => 177 | 46 => 179 | 119 => 182 | 139 => 185 | 138 => 184 | n => n, fun | 3 => 0 | 4 => 1 | n => n⟩
theorem Tryz.laysTrimB : Go.Proofs.Lays.n160 Tryz.prog Tryz.laysTrimB_ren := {
  mixed := by kernel_rfl
  f119 := Tryz.func164.trans (congrArg some (by kernel_rfl))
  f120 := Tryz.func150.trans (congrArg some (by kernel_rfl))
  f137 := Tryz.func65.trans (congrArg some (by kernel_rfl))
  f151 := Tryz.func133.trans (congrArg some (by kernel_rfl))
  f152 := Tryz.func151.trans (congrArg some (by kernel_rfl))
  f160 := Tryz.func115.trans (congrArg some (by kernel_rfl))
  f197 := Tryz.func128.trans (congrArg some (by kernel_rfl))
  f217 := Tryz.func92.trans (congrArg some (by kernel_rfl))
  f224 := Tryz.func148.trans (congrArg some (by kernel_rfl))
  f225 := Tryz.func147.trans (congrArg some (by kernel_rfl))
  f227 := Tryz.func106.trans (congrArg some (by kernel_rfl))
  f228 := Tryz.func131.trans (congrArg some (by kernel_rfl))
  f231 := Tryz.func134.trans (congrArg some (by kernel_rfl))
  f232 := Tryz.func105.trans (congrArg some (by kernel_rfl))
  f233 := Tryz.func135.trans (congrArg some (by kernel_rfl))
  f234 := Tryz.func107.trans (congrArg some (by kernel_rfl))
  f235 := Tryz.func136.trans (congrArg some (by kernel_rfl))
  f236 := Tryz.func108.trans (congrArg some (by kernel_rfl))
  f260 := Tryz.func146.trans (congrArg some (by kernel_rfl))
  f266 := Tryz.func120.trans (congrArg some (by kernel_rfl))
  f271 := Tryz.func132.trans (congrArg some (by kernel_rfl))
  t0 := Tryz.underlying0
  a0 := Tryz.isAgg0
  z0 := Tryz.sizeOf0
  v0 := Tryz.zeroValue0
  t3 := Tryz.underlying3
  a3 := Tryz.isAgg3
  z3 := Tryz.sizeOf3
  v3 := Tryz.zeroValue3
  t4 := Tryz.underlying4
  a4 := Tryz.isAgg4
  z4 := Tryz.sizeOf4
  v4 := Tryz.zeroValue4
  t5 := Tryz.underlying5
  a5 := Tryz.isAgg5
  z5 := Tryz.sizeOf5
  v5 := Tryz.zeroValue5
  t9 := Tryz.underlying9
  a9 := Tryz.isAgg9
  z9 := Tryz.sizeOf9
  v9 := Tryz.zeroValue9
  t21 := Tryz.underlying21
  a21 := Tryz.isAgg21
  z21 := Tryz.sizeOf21
  v21 := Tryz.zeroValue21
  t46 := Tryz.underlying179
  a46 := Tryz.isAgg179
  z46 := Tryz.sizeOf179
  v46 := Tryz.zeroValue179
  t105 := Tryz.underlying177
  a105 := Tryz.isAgg177
  z105 := Tryz.sizeOf177
  v105 := Tryz.zeroValue177
  t116 := Tryz.underlying157
  a116 := Tryz.isAgg157
  z116 := Tryz.sizeOf157
  t117 := Tryz.underlying158
  a117 := Tryz.isAgg158
  z117 := Tryz.sizeOf158
  v117 := Tryz.zeroValue158
  t119 := Tryz.underlying182
  a119 := Tryz.isAgg182
  z119 := Tryz.sizeOf182
  t124 := Tryz.underlying161
  a124 := Tryz.isAgg161
  z124 := Tryz.sizeOf161
  v124 := Tryz.zeroValue161
  t138 := Tryz.underlying184
  a138 := Tryz.isAgg184
  z138 := Tryz.sizeOf184
  v138 := Tryz.zeroValue184
  t139 := Tryz.underlying185
  a139 := Tryz.isAgg185
  z139 := Tryz.sizeOf185
  v139 := Tryz.zeroValue185
  g3 := by kernel_rfl
  g4 := by kernel_rfl }
def Tryz.laysHas_ren : Go.Shelf.Ren := ⟨fun | 99 => 110 | 206 => 137 | n => n, fun | 9 => 9 | 4 => 4 | 3 => 3 | n => n, fun | n => n⟩
theorem Tryz.laysHas : Go.Proofs.Lays.n99 Tryz.prog Tryz.laysHas_ren := {
  mixed := by kernel_rfl
  f99 := Tryz.func110.trans (congrArg some (by kernel_rfl))
  f206 := Tryz.func137.trans (congrArg some (by kernel_rfl))
  t3 := Tryz.underlying3
  a3 := Tryz.isAgg3
  z3 := Tryz.sizeOf3
  v3 := Tryz.zeroValue3
  t4 := Tryz.underlying4
  a4 := Tryz.isAgg4
  z4 := Tryz.sizeOf4
  v4 := Tryz.zeroValue4
  t9 := Tryz.underlying9
  a9 := Tryz.isAgg9
  z9 := Tryz.sizeOf9
  v9 := Tryz.zeroValue9 }
def Tryz.laysSub_ren : Go.Shelf.Ren := ⟨fun | 219 => 129 | 217 => 92 | 225 => 147 | 224 => 148 | 267 => 149 | 266 => 120 | 314 => 163 | n => n, fun | 9 => 9 | 3 => 3 | 4 => 4 | 5 => 5 | 46 => 179 | 146 => 207 | 51 => 206 | n => n, fun | 1 => 2 | n => n⟩
theorem Tryz.laysSub : Go.Proofs.Lays.n219 Tryz.prog Tryz.laysSub_ren := {
  mixed := by kernel_rfl
  f217 := Tryz.func92.trans (congrArg some (by kernel_rfl))
  f219 := Tryz.func129.trans (congrArg some (by kernel_rfl))
  f224 := Tryz.func148.trans (congrArg some (by kernel_rfl))
  f225 := Tryz.func147.trans (congrArg some (by kernel_rfl))
  f266 := Tryz.func120.trans (congrArg some (by kernel_rfl))
  f267 := Tryz.func149.trans (congrArg some (by kernel_rfl))
  f314 := Tryz.func163.trans (congrArg some (by kernel_rfl))
  t3 := Tryz.underlying3
  a3 := Tryz.isAgg3
  z3 := Tryz.sizeOf3
  v3 := Tryz.zeroValue3
  t4 := Tryz.underlying4
  a4 := Tryz.isAgg4
  z4 := Tryz.sizeOf4
  v4 := Tryz.zeroValue4
  t5 := Tryz.underlying5
  a5 := Tryz.isAgg5
  z5 := Tryz.sizeOf5
  v5 := Tryz.zeroValue5
  t9 := Tryz.underlying9
  a9 := Tryz.isAgg9
  z9 := Tryz.sizeOf9
  v9 := Tryz.zeroValue9
  t46 := Tryz.underlying179
  a46 := Tryz.isAgg179
  z46 := Tryz.sizeOf179
  v46 := Tryz.zeroValue179
  t51 := Tryz.underlying206
  a51 := Tryz.isAgg206
  z51 := Tryz.sizeOf206
  v51 := Tryz.zeroValue206
  t146 := Tryz.underlying207
  a146 := Tryz.isAgg207
  z146 := Tryz.sizeOf207
  v146 := Tryz.zeroValue207
  g1 := by kernel_rfl }
def Tryz.laysTrim_ren : Go.Shelf.Ren := ⟨fun | 101 => 125 | 208 => 142 | 206 => 137 | n => n, fun | 9 => 9 | 4 => 4 | 3 => 3 | n => n, fun | n => n⟩
theorem Tryz.laysTrim : Go.Proofs.Lays.n101 Tryz.prog Tryz.laysTrim_ren := {
  mixed := by kernel_rfl
  f101 := Tryz.func125.trans (congrArg some (by kernel_rfl))
  f206 := Tryz.func137.trans (congrArg some (by kernel_rfl))
  f208 := Tryz.func142.trans (congrArg some (by kernel_rfl))
  t3 := Tryz.underlying3
  a3 := Tryz.isAgg3
  z3 := Tryz.sizeOf3
  v3 := Tryz.zeroValue3
  t4 := Tryz.underlying4
  a4 := Tryz.isAgg4
  z4 := Tryz.sizeOf4
  v4 := Tryz.zeroValue4
  t9 := Tryz.underlying9
  a9 := Tryz.isAgg9
  z9 := Tryz.sizeOf9
  v9 := Tryz.zeroValue9 }
def Tryz.laysInt_ren : Go.Shelf.Ren := ⟨fun | 174 => 126 | 247 => 143 | 245 => 144 | 287 => 153 | 279 => 154 | 280 => 155 | 281 => 156 | 282 => 157 | 321 => 165 | 322 => 166 | 316 => 111 | 171 => 168 | 205 => 167 | 243 => 171 | 246 => 172 | 283 => 173 | 284 => 174 | 285 => 175 | 286 => 176 | 129 => 178 | 317 => 177 | 318 => 179 | 319 => 180 | 320 => 181 | 337 => 182 | 338 => 183 | n => n, fun | 9 => 9 | 3 => 3 | 2 => 2 | 75 => 173 | 85 => 174 | 4 => 4 | 167 => 195 | 5 => 5 | 53 => 193 | 175 => 196 | 46 => 179 | 168 => 198 | 37 => 145 | 0 => 0 | 210 => 211 | 21 => 21 | 127 => 187 | 145 => 217 | 143 => 215 | 171 => 219 | 173 => 222 | 212 => 225 | 51 => 206 | 20 => 20 | 213 => 226 | 232 => 229 | 233 => 230 | 80 => 231 | n => n, fun | 15 => 3 | 16 => 4 | 17 => 5 | 18 => 6 | 19 => 7 | n => n⟩
theorem Tryz.laysInt : Go.Proofs.LaysC.n174 Tryz.prog Tryz.laysInt_ren := {
  mixed := by kernel_rfl
  f129 := Tryz.func178.trans (congrArg some (by kernel_rfl))
  f171 := Tryz.func168.trans (congrArg some (by kernel_rfl))
  f174 := Tryz.func126.trans (congrArg some (by kernel_rfl))
  f205 := Tryz.func167.trans (congrArg some (by kernel_rfl))
  f243 := Tryz.func171.trans (congrArg some (by kernel_rfl))
  f245 := Tryz.func144.trans (congrArg some (by kernel_rfl))
  f246 := Tryz.func172.trans (congrArg some (by kernel_rfl))
  f247 := Tryz.func143.trans (congrArg some (by kernel_rfl))
  f279 := Tryz.func154.trans (congrArg some (by kernel_rfl))
  f280 := Tryz.func155.trans (congrArg some (by kernel_rfl))
  f281 := Tryz.func156.trans (congrArg some (by kernel_rfl))
  f282 := Tryz.func157.trans (congrArg some (by kernel_rfl))
  f283 := Tryz.func173.trans (congrArg some (by kernel_rfl))
  f284 := Tryz.func174.trans (congrArg some (by kernel_rfl))
  f285 := Tryz.func175.trans (congrArg some (by kernel_rfl))
  f286 := Tryz.func176.trans (congrArg some (by kernel_rfl))
  f287 := Tryz.func153.trans (congrArg some (by kernel_rfl))
  f316 := Tryz.func111.trans (congrArg some (by kernel_rfl))
  f317 := Tryz.func177.trans (congrArg some (by kernel_rfl))
  f318 := Tryz.func179.trans (congrArg some (by kernel_rfl))
  f319 := Tryz.func180.trans (congrArg some (by kernel_rfl))
  f320 := Tryz.func181.trans (congrArg some (by kernel_rfl))
  f321 := Tryz.func165.trans (congrArg some (by kernel_rfl))
  f322 := Tryz.func166.trans (congrArg some (by kernel_rfl))
  f337 := Tryz.func182.trans (congrArg some (by kernel_rfl))
  f338 := Tryz.func183.trans (congrArg some (by kernel_rfl))
  t0 := Tryz.underlying0
  a0 := Tryz.isAgg0
  z0 := Tryz.sizeOf0
  v0 := Tryz.zeroValue0
  t2 := Tryz.underlying2
  a2 := Tryz.isAgg2
  z2 := Tryz.sizeOf2
  v2 := Tryz.zeroValue2
  t3 := Tryz.underlying3
  a3 := Tryz.isAgg3
  z3 := Tryz.sizeOf3
  v3 := Tryz.zeroValue3
  t4 := Tryz.underlying4
  a4 := Tryz.isAgg4
  z4 := Tryz.sizeOf4
  v4 := Tryz.zeroValue4
  t5 := Tryz.underlying5
  a5 := Tryz.isAgg5
  z5 := Tryz.sizeOf5
  v5 := Tryz.zeroValue5
  t9 := Tryz.underlying9
  a9 := Tryz.isAgg9
  z9 := Tryz.sizeOf9
  v9 := Tryz.zeroValue9
  t20 := Tryz.underlying20
  a20 := Tryz.isAgg20
  z20 := Tryz.sizeOf20
  v20 := Tryz.zeroValue20
  t21 := Tryz.underlying21
  a21 := Tryz.isAgg21
  z21 := Tryz.sizeOf21
  v21 := Tryz.zeroValue21
  t37 := Tryz.underlying145
  a37 := Tryz.isAgg145
  z37 := Tryz.sizeOf145
  v37 := Tryz.zeroValue145
  t46 := Tryz.underlying179
  a46 := Tryz.isAgg179
  z46 := Tryz.sizeOf179
  v46 := Tryz.zeroValue179
  t51 := Tryz.underlying206
  a51 := Tryz.isAgg206
  z51 := Tryz.sizeOf206
  v51 := Tryz.zeroValue206
  t53 := Tryz.underlying193
  a53 := Tryz.isAgg193
  z53 := Tryz.sizeOf193
  v53 := Tryz.zeroValue193
  t75 := Tryz.underlying173
  a75 := Tryz.isAgg173
  z75 := Tryz.sizeOf173
  v75 := Tryz.zeroValue173
  t85 := Tryz.underlying174
  a85 := Tryz.isAgg174
  z85 := Tryz.sizeOf174
  v85 := Tryz.zeroValue174
  t127 := Tryz.underlying187
  a127 := Tryz.isAgg187
  z127 := Tryz.sizeOf187
  v127 := Tryz.zeroValue187
  t143 := Tryz.underlying215
  a143 := Tryz.isAgg215
  z143 := Tryz.sizeOf215
  v143 := Tryz.zeroValue215
  t145 := Tryz.underlying217
  a145 := Tryz.isAgg217
  z145 := Tryz.sizeOf217
  v145 := Tryz.zeroValue217
  t167 := Tryz.underlying195
  a167 := Tryz.isAgg195
  z167 := Tryz.sizeOf195
  v167 := Tryz.zeroValue195
  t168 := Tryz.underlying198
  a168 := Tryz.isAgg198
  z168 := Tryz.sizeOf198
  v168 := Tryz.zeroValue198
  t171 := Tryz.underlying219
  a171 := Tryz.isAgg219
  z171 := Tryz.sizeOf219
  v171 := Tryz.zeroValue219
  t173 := Tryz.underlying222
  a173 := Tryz.isAgg222
  z173 := Tryz.sizeOf222
  v173 := Tryz.zeroValue222
  t175 := Tryz.underlying196
  a175 := Tryz.isAgg196
  z175 := Tryz.sizeOf196
  v175 := Tryz.zeroValue196
  t210 := Tryz.underlying211
  a210 := Tryz.isAgg211
  z210 := Tryz.sizeOf211
  v210 := Tryz.zeroValue211
  t212 := Tryz.underlying225
  a212 := Tryz.isAgg225
  z212 := Tryz.sizeOf225
  v212 := Tryz.zeroValue225
  t213 := Tryz.underlying226
  a213 := Tryz.isAgg226
  z213 := Tryz.sizeOf226
  t232 := Tryz.underlying229
  a232 := Tryz.isAgg229
  z232 := Tryz.sizeOf229
  v232 := Tryz.zeroValue229
  t233 := Tryz.underlying230
  a233 := Tryz.isAgg230
  z233 := Tryz.sizeOf230
  v233 := Tryz.zeroValue230
  g15 := by kernel_rfl
  g16 := by kernel_rfl
  g17 := by kernel_rfl
  g18 := by kernel_rfl
  g19 := by kernel_rfl
  t80 := Tryz.underlying231
  a80 := Tryz.isAgg231
  z80 := Tryz.sizeOf231
  v80 := Tryz.zeroValue231
  i0 := by kernel_rfl
  i2 := by kernel_rfl
  i3 := by kernel_rfl
  i4 := by kernel_rfl
  i5 := by kernel_rfl
  i9 := by kernel_rfl
  i20 := by kernel_rfl
  i21 := by kernel_rfl
  i37 := by kernel_rfl
  i46 := by kernel_rfl
  i51 := by kernel_rfl
  i53 := by kernel_rfl
  i75 := by kernel_rfl
  i80 := by kernel_rfl
  i85 := by kernel_rfl
  i127 := by kernel_rfl
  i143 := by kernel_rfl
  i145 := by kernel_rfl
  i167 := by kernel_rfl
  i168 := by kernel_rfl
  i171 := by kernel_rfl
  i173 := by kernel_rfl
  i175 := by kernel_rfl
  i210 := by kernel_rfl
  i212 := by kernel_rfl
  i232 := by kernel_rfl
  i233 := by kernel_rfl
  m15 := by kernel_rfl
  m16 := by kernel_rfl
  m17 := by kernel_rfl
  m18 := by kernel_rfl
  m19 := by kernel_rfl
  c0 := by kernel_rfl
  c2 := by kernel_rfl
  c3 := by kernel_rfl
  c4 := by kernel_rfl
  c5 := by kernel_rfl
  c9 := by kernel_rfl
  c20 := by kernel_rfl
  c21 := by kernel_rfl
  c37 := by kernel_rfl
  c46 := by kernel_rfl
  c51 := by kernel_rfl
  c53 := by kernel_rfl
  c75 := by kernel_rfl
  c80 := by kernel_rfl
  c85 := by kernel_rfl
  c127 := by kernel_rfl
  c143 := by kernel_rfl
  c145 := by kernel_rfl
  c167 := by kernel_rfl
  c168 := by kernel_rfl
  c171 := by kernel_rfl
  c173 := by kernel_rfl
  c175 := by kernel_rfl
  c210 := by kernel_rfl
  c212 := by kernel_rfl
  c213 := by kernel_rfl
  c232 := by kernel_rfl
  c233 := by kernel_rfl }
def Tryz.laysCut_ren : Go.Shelf.Ren := ⟨fun | 145 => 77 | 220 => 103 | 219 => 129 | 217 => 92 | 225 => 147 | 224 => 148 | 267 => 149 | 266 => 120 | 314 => 163 | n => n, fun | 9 => 9 | 4 => 4 | 59 => 130 | 3 => 3 | 5 => 5 | 46 => 179 | 146 => 207 | 51 => 206 | n => n, fun | 1 => 2 | n => n⟩
theorem Tryz.laysCut : Go.Proofs.Lays.n145 Tryz.prog Tryz.laysCut_ren := {
  mixed := by kernel_rfl
  f145 := Tryz.func77.trans (congrArg some (by kernel_rfl))
  f217 := Tryz.func92.trans (congrArg some (by kernel_rfl))
  f219 := Tryz.func129.trans (congrArg some (by kernel_rfl))
  f220 := Tryz.func103.trans (congrArg some (by kernel_rfl))
  f224 := Tryz.func148.trans (congrArg some (by kernel_rfl))
  f225 := Tryz.func147.trans (congrArg some (by kernel_rfl))
  f266 := Tryz.func120.trans (congrArg some (by kernel_rfl))
  f267 := Tryz.func149.trans (congrArg some (by kernel_rfl))
  f314 := Tryz.func163.trans (congrArg some (by kernel_rfl))
  t3 := Tryz.underlying3
  a3 := Tryz.isAgg3
  z3 := Tryz.sizeOf3
  v3 := Tryz.zeroValue3
  t4 := Tryz.underlying4
  a4 := Tryz.isAgg4
  z4 := Tryz.sizeOf4
  v4 := Tryz.zeroValue4
  t5 := Tryz.underlying5
  a5 := Tryz.isAgg5
  z5 := Tryz.sizeOf5
  v5 := Tryz.zeroValue5
  t9 := Tryz.underlying9
  a9 := Tryz.isAgg9
  z9 := Tryz.sizeOf9
  v9 := Tryz.zeroValue9
  t46 := Tryz.underlying179
  a46 := Tryz.isAgg179
  z46 := Tryz.sizeOf179
  v46 := Tryz.zeroValue179
  t51 := Tryz.underlying206
  a51 := Tryz.isAgg206
  z51 := Tryz.sizeOf206
  v51 := Tryz.zeroValue206
  t59 := Tryz.underlying130
  a59 := Tryz.isAgg130
  z59 := Tryz.sizeOf130
  v59 := Tryz.zeroValue130
  t146 := Tryz.underlying207
  a146 := Tryz.isAgg207
  z146 := Tryz.sizeOf207
  v146 := Tryz.zeroValue207
  g1 := by kernel_rfl }
def Tryz.laysCutPre_ren : Go.Shelf.Ren := ⟨fun | 103 => 139 | 210 => 152 | 206 => 137 | n => n, fun | 9 => 9 | 4 => 4 | 24 => 96 | 3 => 3 | n => n, fun | n => n⟩
theorem Tryz.laysCutPre : Go.Proofs.Lays.n103 Tryz.prog Tryz.laysCutPre_ren := {
  mixed := by kernel_rfl
  f103 := Tryz.func139.trans (congrArg some (by kernel_rfl))
  f206 := Tryz.func137.trans (congrArg some (by kernel_rfl))
  f210 := Tryz.func152.trans (congrArg some (by kernel_rfl))
  t3 := Tryz.underlying3
  a3 := Tryz.isAgg3
  z3 := Tryz.sizeOf3
  v3 := Tryz.zeroValue3
  t4 := Tryz.underlying4
  a4 := Tryz.isAgg4
  z4 := Tryz.sizeOf4
  v4 := Tryz.zeroValue4
  t9 := Tryz.underlying9
  a9 := Tryz.isAgg9
  z9 := Tryz.sizeOf9
  v9 := Tryz.zeroValue9
  t24 := Tryz.underlying96
  a24 := Tryz.isAgg96
  z24 := Tryz.sizeOf96
  v24 := Tryz.zeroValue96 }
end Go.Proofs
namespace Go.Proofs.YthhdadfnkdjmkaaGreatDoor.v
open Go.ChangeShapes Go.WideShapes Go.ChangeAt Go.RowKit
variable {w : World}

/-- The library's tables lie as its text lays them. -/
def Tabs (w : World) : Prop := Lib.Utf8Tabs (Tryz.laysValid_ren.g 3) (Tryz.laysValid_ren.g 4) w
theorem Tabs.move {w w' : World} (h : Tabs w) (f : Fresh w w') : Tabs w' := Utf8Tabs_below h f
theorem ret_int {k : IntKind} {a b : Int} (h : a = b) : Ending.returned (.int k a) = .returned (.int k b) := by rw [h]
theorem ret_bool {a b : Bool} (h : a = b) : Ending.returned (.bool a) = .returned (.bool b) := by rw [h]
theorem valid_any (s : ByteArray) (w : World) (hs : s.size ≤ 1000000) (hT : Tabs w) : Calls Tryz.prog 104 #[.string s] w fun e w' => e = .returned (.bool (Lib.validD s.data.toList)) ∧ Fresh w w' :=
  Any.utf8_ValidString Tryz.laysValid s w (by omega) hT
theorem textFault_any (s : ByteArray) (w : World) (hs : s.size ≤ 1000000) (hT : Tabs w) : Calls Tryz.prog 122 #[.string s] w fun e w' => e = .returned (.int .i64 (textW s)) ∧ Fresh w w' := by
  have HV := Lib.hid (valid_any s w hs hT)
  clear hT
  unfold textW
  generalize Lib.validD s.data.toList = b at *
  cases b with
  | false =>
    go_enter Tryz.func122, Tryz.ntmps122
    go_wp2_with fail
    refine HV.out.mono ?_
    rintro e w1 ⟨rfl, hf⟩
    go_wp2
    go_ret
    exact ⟨rfl, hf⟩
  | true =>
    by_cases hl : 4096 < s.size
    · have H : Hid ((if true = true then (if 4096 < s.size then (2 : Int) else 0) else 10) = 2) := by rw [Hid, if_pos rfl, if_pos hl]
      rw [H.out]
      go_enter Tryz.func122, Tryz.ntmps122
      go_wp2_with fail
      refine HV.out.mono ?_
      rintro e w1 ⟨rfl, hf⟩
      go_wp2
      go_ret
      exact ⟨rfl, hf⟩
    · have H : Hid ((if true = true then (if 4096 < s.size then (2 : Int) else 0) else 10) = 0) := by rw [Hid, if_pos rfl, if_neg hl]
      rw [H.out]
      go_enter Tryz.func122, Tryz.ntmps122
      go_wp2_with fail
      refine HV.out.mono ?_
      rintro e w1 ⟨rfl, hf⟩
      go_wp2
      go_ret
      exact ⟨rfl, hf⟩
end Go.Proofs.YthhdadfnkdjmkaaGreatDoor.v
namespace Go.Proofs.YthhdadfnkdjmkaaGreatDoor.v
open Go.ChangeShapes Go.WideShapes Go.ChangeAt Go.RowKit
variable {w : World}

theorem toList_beq (x y : ByteArray) : (x.toList == y.toList) = decide (x = y) := by
  rw [ByteArray.toList_eq, ByteArray.toList_eq]
  by_cases h : x = y
  · subst h; simp
  · rw [decide_eq_false h]
    cases e : x.data.toList == y.data.toList with
    | false => rfl
    | true => exact absurd (ByteArray.ext (Array.ext' (eq_of_beq e))) h
abbrev pval (nm : ByteArray) (k : Int) (f : Bool) (n : Int) (s : ByteArray) (la : Option Addr) (ln lc : Nat) (ka : Option Addr) (kn kc : Nat) : Value := .agg #[.string nm, .int .i64 k, .bool f, .int .i64 n, .string s, .slice la ln lc, .slice ka kn kc]
def pvalOf (p : ByteArray × M) : Value := match p with | (nm, .mk k f n s la lc l ka kc ks) => pval nm k f n s la l.length lc ka ks.length kc
theorem keq_any (p q : ByteArray × M) (w : World) : Calls Tryz.prog 67 #[pvalOf p, pvalOf q] w fun e w' => e = .returned (.bool (decide (p.1 = q.1))) ∧ Fresh w w' := by
  obtain ⟨nm, k, f, n, s, la, lc, l, ka, kc, ks⟩ := p
  obtain ⟨nm', k', f', n', s', la', lc', l', ka', kc', ks'⟩ := q
  dsimp only [pvalOf]
  generalize l.length = ln
  generalize ks.length = kn
  generalize l'.length = ln'
  generalize ks'.length = kn'
  rw [← toList_beq]
  go_enter Tryz.func67, Tryz.ntmps67
  go_wp2
  go_ret
  exact ⟨rfl, ((Fresh.refl w).alloc _).alloc _⟩
def namesEq (l m : List (ByteArray × M)) : Bool := decide (l.map (·.1) = m.map (·.1))
theorem namesEq_drop (l m : List (ByteArray × M)) (k : Nat) (hl : k < l.length) (hm : k < m.length) : namesEq (l.drop k) (m.drop k) = (decide (l[k].1 = m[k].1) && namesEq (l.drop (k + 1)) (m.drop (k + 1))) := by
  unfold namesEq
  rw [List.drop_eq_getElem_cons hl, List.drop_eq_getElem_cons hm, List.map_cons, List.map_cons]
  simp
theorem namesEq_parted {l m : List (ByteArray × M)} (h : l.length ≠ m.length) : namesEq l m = false := by
  refine decide_eq_false fun e => h ?_
  have := congrArg List.length e
  simpa using this
set_option maxRecDepth 100000 in
set_option maxHeartbeats 1000000 in
theorem keysEqual_any (ks ms : List (ByteArray × M)) (ka ma : Option Addr) (kc mc : Nat) (hk : RowAt w ka (pcells ks)) (hm : RowAt w ma (pcells ms)) (lk : ks.length ≤ 1000000) (_lm : ms.length ≤ 1000000) :
    Calls Tryz.prog 66 #[.slice ka ks.length kc, .slice ma ms.length mc, .func (.func 67) #[] #[]] w fun e w' => e = .returned (.bool (namesEq ks ms)) ∧ Fresh w w' := by
  by_cases hlen : ks.length = ms.length
  · have HK := Lib.hid hk
    have HM := Lib.hid hm
    have HL := Lib.hid hlen
    clear hk hm
    rw [← hlen]
    clear hlen
    go_enter Tryz.func66, Tryz.ntmps66
    go_wp2
    go_loopw [17] (fun i wr => ∃ k : Nat, k ≤ ks.length ∧ i = .int .i64 k ∧ Hid (namesEq ks ms = namesEq (ks.drop k) (ms.drop k)) ∧ Hid (Fresh w wr)) (fun i _ => ks.length - (intOf i).toNat)
    case atStart => exact ⟨0, Nat.zero_le _, rfl, rfl, Fresh.refl w⟩
    case round =>
      obtain ⟨k, hkk, rfl, HE, HW⟩ := hrel
      by_cases hlt : k < ks.length
      · have hltm : k < ms.length := by rw [← HL.out]; exact hlt
        obtain ⟨ga, ea⟩ : ∃ g, ka = some ⟨g, 0, none⟩ := by
          rcases HK.out with ⟨_, e⟩ | ⟨g, e, _⟩
          · have := congrArg List.length e
            rw [pcells_length] at this; simp at this; omega
          · exact ⟨g, e⟩
        obtain ⟨gb, eb⟩ : ∃ g, ma = some ⟨g, 0, none⟩ := by
          rcases HM.out with ⟨_, e⟩ | ⟨g, e, _⟩
          · have := congrArg List.length e
            rw [pcells_length] at this; simp at this; omega
          · exact ⟨g, e⟩
        subst ea eb
        obtain ⟨c, hc⟩ := prow_get (HK.out.move HW.out) k hlt
        obtain ⟨d, hd⟩ := prow_get (HM.out.move HW.out) k hltm
        have hgb : gb < wr.heap.size := World.block_lt_of_cell? wr _ d
        have HN := Lib.hid (namesEq_drop ks ms k hlt hltm)
        have HQ : Hid (∀ W, Calls Tryz.prog 67 #[pvalOf ks[k], pvalOf ms[k]] W fun e w' => e = .returned (.bool (decide (ks[k].1 = ms[k].1))) ∧ Fresh W w') := fun W => keq_any _ _ W
        generalize ks[k] = p at *
        generalize ms[k] = q at *
        obtain ⟨nm, y⟩ := p
        obtain ⟨nm', z⟩ := q
        obtain ⟨yk, yf, yn, ys, yla, ylc, yl, yka, ykc, yks⟩ := y
        obtain ⟨zk, zf, zn, zs, zla, zlc, zl, zka, zkc, zks⟩ := z
        obtain ⟨c0, c1, c2, c3, c4, c5⟩ := hc
        obtain ⟨d0, d1, d2, d3, d4, d5⟩ := hd
        dsimp only [pvalOf] at HQ c d HN
        generalize yl.length = yln at *
        generalize yks.length = ykn at *
        generalize zl.length = zln at *
        generalize zks.length = zkn at *
        generalize decide (nm = nm') = b at *
        cases b with
        | true =>
          go_wp2_with fail
          refine (HQ.out _).mono ?_
          rintro e w1 ⟨rfl, hf⟩
          have HW1 := Lib.hid (((HW.out.alloc _).alloc _).trans hf)
          clear hf
          go_wp2
          go_roundw
          case rel => exact ⟨k + 1, by omega, by go_num, by rw [Hid, HE.out, HN.out]; rfl, HW1.out⟩
          case measure => simp [intOf]; omega
        | false =>
          go_wp2_with fail
          refine (HQ.out _).mono ?_
          rintro e w1 ⟨rfl, hf⟩
          have HW1 := Lib.hid (((HW.out.alloc _).alloc _).trans hf)
          clear hf
          go_wp2
          go_ret
          exact ⟨ret_bool (by rw [HE.out, HN.out]; rfl), HW1.out⟩
      · obtain rfl : k = ks.length := by omega
        have H : Hid (namesEq ks ms = true) := by
          rw [Hid, HE.out, List.drop_length, HL.out, List.drop_length]; rfl
        clear HE
        go_wp2
        go_ret
        exact ⟨ret_bool H.out.symm, HW.out⟩
  · have H := Lib.hid (namesEq_parted hlen)
    have hb : ((ks.length : Int) == (ms.length : Int)) = false := beq_eq_false_iff_ne.2 (by omega)
    have hb2 : (ks.length == ms.length) = false := by simpa using hlen
    clear hlen
    rw [H.out]
    go_enter Tryz.func66, Tryz.ntmps66
    go_wp2
    go_ret
    exact ⟨rfl, Fresh.refl w⟩
/-! ### alike -/
theorem plainK_names (ks : List (ByteArray × M)) : (plainK ks).map (·.1) = ks.map (·.1) := by rw [plainK_eq]; simp
theorem alike_parted {k k' : Int} (h : k ≠ k') (f f' : Bool) (n n' : Int) (s s' : ByteArray) (l l' : List V) (ks ks' : List (ByteArray × V)) : (V.mk k f n s l ks).alike (.mk k' f' n' s' l' ks') = false :=
  decide_eq_false fun e => h e.1
theorem alike_flag (f f' : Bool) (n n' : Int) (s s' : ByteArray) (l l' : List V) (ks ks' : List (ByteArray × V)) : (V.mk 1 f n s l ks).alike (.mk 1 f' n' s' l' ks') = (f == f') := by
  simp [V.alike, V.kind, V.flag]
  cases f <;> cases f' <;> rfl
theorem alike_num (f f' : Bool) (n n' : Int) (s s' : ByteArray) (l l' : List V) (ks ks' : List (ByteArray × V)) : (V.mk 2 f n s l ks).alike (.mk 2 f' n' s' l' ks') = (n == n') := by
  simp [V.alike, V.kind, V.num]
  by_cases h : n = n' <;> simp [h]
theorem alike_text (f f' : Bool) (n n' : Int) (s s' : ByteArray) (l l' : List V) (ks ks' : List (ByteArray × V)) : (V.mk 3 f n s l ks).alike (.mk 3 f' n' s' l' ks') = (s.toList == s'.toList) := by
  rw [toList_beq]
  simp [V.alike, V.kind, V.text]
theorem alike_keys (f f' : Bool) (n n' : Int) (s s' : ByteArray) (l l' : List V) (ks ks' : List (ByteArray × V)) : (V.mk 5 f n s l ks).alike (.mk 5 f' n' s' l' ks') = decide (ks.map (·.1) = ks'.map (·.1)) := by
  simp [V.alike, V.kind, V.keys]
theorem alike_else {k : Int} (h1 : k ≠ 1) (h2 : k ≠ 2) (h3 : k ≠ 3) (h5 : k ≠ 5) (f f' : Bool) (n n' : Int) (s s' : ByteArray) (l l' : List V) (ks ks' : List (ByteArray × V)) : (V.mk k f n s l ks).alike (.mk k f' n' s' l' ks') = true :=
  decide_eq_true ⟨rfl, .inl h1, .inl h2, .inl h3, .inl h5⟩
set_option maxRecDepth 100000 in
set_option maxHeartbeats 1000000 in
theorem alike_any (m m' : M) (w : World) (hm : m.At w) (hm' : m'.At w) : Calls Tryz.prog 38 #[m.val, m'.val] w fun e w' => e = .returned (.bool (m.plain.alike m'.plain)) ∧ Fresh w w' := by
  obtain ⟨k, f, n, s, la, lc, l, ka, kc, ks⟩ := m
  obtain ⟨k', f', n', s', la', lc', l', ka', kc', ks'⟩ := m'
  obtain ⟨_, _, hk, _, lk, _⟩ := hm.parts
  obtain ⟨_, _, hk', _, lk', _⟩ := hm'.parts
  dsimp only [M.val, M.plain]
  by_cases e : k = k'
  · subst e
    by_cases h5 : k = 5
    · subst h5
      have H : Hid ((V.mk 5 f n s (plainL l) (plainK ks)).alike (V.mk 5 f' n' s' (plainL l') (plainK ks')) = namesEq ks ks') := by
        rw [Hid, alike_keys, plainK_names, plainK_names]; rfl
      rw [H.out]
      have HQ : Hid (∀ W, Fresh w W → Calls Tryz.prog 66 #[.slice ka ks.length kc, .slice ka' ks'.length kc', .func (.func 67) #[] #[]] W fun e w' => e = .returned (.bool (namesEq ks ks')) ∧ Fresh W w') := fun W hf => keysEqual_any ks ks' ka ka' kc kc' (hk.move hf) (hk'.move hf) lk lk'
      clear hk hk' hm hm' lk lk' H
      generalize namesEq ks ks' = b at *
      generalize l.length = ln at *
      generalize ks.length = kn at *
      generalize l'.length = ln' at *
      generalize ks'.length = kn' at *
      go_enter Tryz.func38, Tryz.ntmps38
      go_wp2_with fail
      refine (HQ.out _ (((Fresh.refl w).alloc _).alloc _)).mono ?_
      rintro e w1 ⟨rfl, hf⟩
      have HW1 := Lib.hid ((((Fresh.refl w).alloc _).alloc _).trans hf)
      clear hf
      go_wp2
      go_ret
      exact ⟨rfl, HW1.out⟩
    · clear hk hk' hm hm' lk lk'
      have b5 : (k == 5) = false := by simpa using h5
      by_cases h1 : k = 1
      · subst h1
        rw [alike_flag]
        generalize l.length = ln at *
        generalize ks.length = kn at *
        generalize l'.length = ln' at *
        generalize ks'.length = kn' at *
        clear h5 b5
        go_enter Tryz.func38, Tryz.ntmps38
        go_wp2
        go_ret
        exact ⟨rfl, ((Fresh.refl w).alloc _).alloc _⟩
      have b1 : (k == 1) = false := by simpa using h1
      by_cases h2 : k = 2
      · subst h2
        rw [alike_num]
        generalize l.length = ln at *
        generalize ks.length = kn at *
        generalize l'.length = ln' at *
        generalize ks'.length = kn' at *
        clear h5 b5 h1 b1
        go_enter Tryz.func38, Tryz.ntmps38
        go_wp2
        go_ret
        exact ⟨rfl, ((Fresh.refl w).alloc _).alloc _⟩
      have b2 : (k == 2) = false := by simpa using h2
      by_cases h3 : k = 3
      · subst h3
        rw [alike_text]
        generalize l.length = ln at *
        generalize ks.length = kn at *
        generalize l'.length = ln' at *
        generalize ks'.length = kn' at *
        clear h5 b5 h1 b1 h2 b2
        go_enter Tryz.func38, Tryz.ntmps38
        go_wp2
        go_ret
        exact ⟨rfl, ((Fresh.refl w).alloc _).alloc _⟩
      have b3 : (k == 3) = false := by simpa using h3
      rw [alike_else h1 h2 h3 h5]
      generalize l.length = ln at *
      generalize ks.length = kn at *
      generalize l'.length = ln' at *
      generalize ks'.length = kn' at *
      clear h1 h2 h3 h5
      go_enter Tryz.func38, Tryz.ntmps38
      go_wp2
      go_ret
      exact ⟨rfl, ((Fresh.refl w).alloc _).alloc _⟩
  · rw [alike_parted e]
    have hb : (k == k') = false := by simpa using e
    clear e hk hk' hm hm' lk lk'
    generalize l.length = ln at *
    generalize ks.length = kn at *
    generalize l'.length = ln' at *
    generalize ks'.length = kn' at *
    go_enter Tryz.func38, Tryz.ntmps38
    go_wp2
    go_ret
    exact ⟨rfl, ((Fresh.refl w).alloc _).alloc _⟩
theorem row_some {w : World} {a : Option Addr} {l : List M} (h : RowAt w a (mcells l)) (k : Nat) (hk : k < l.length) : ∃ g, a = some ⟨g, 0, none⟩ := by
  rcases h with ⟨_, e⟩ | ⟨g, e, _⟩
  · have := congrArg List.length e
    rw [mcells_length] at this; simp at this; omega
  · exact ⟨g, e⟩
set_option maxRecDepth 100000 in
set_option maxHeartbeats 1000000 in
theorem allAlike_any (l m : List M) (la ma : Option Addr) (lc mc : Nat) (w : World) (hl : RowAt w la (mcells l)) (hm : RowAt w ma (mcells m)) (ll : l.length ≤ 1000000) (al : ∀ x ∈ l, x.At w) (am : ∀ x ∈ m, x.At w) :
    Calls Tryz.prog 40 #[.slice la l.length lc, .slice ma m.length mc, .func (.func 38) #[] #[]] w fun e w' => e = .returned (.bool (alikeL (l.map M.plain) (m.map M.plain))) ∧ Fresh w w' := by
  by_cases hlen : l.length = m.length
  · have HK := Lib.hid hl
    have HM := Lib.hid hm
    have HL := Lib.hid hlen
    have HA := Lib.hid al
    have HB := Lib.hid am
    clear hl hm al am
    rw [← hlen]
    clear hlen
    go_enter Tryz.func40, Tryz.ntmps40
    go_wp2
    go_loopw [17] (fun i wr => ∃ k : Nat, k ≤ l.length ∧ i = .int .i64 k ∧ Hid (alikeL (l.map M.plain) (m.map M.plain) = alikeL ((l.map M.plain).drop k) ((m.map M.plain).drop k)) ∧ Hid (Fresh w wr)) (fun i _ => l.length - (intOf i).toNat)
    case atStart => exact ⟨0, Nat.zero_le _, rfl, rfl, Fresh.refl w⟩
    case round =>
      obtain ⟨k, hkk, rfl, HE, HW⟩ := hrel
      by_cases hlt : k < l.length
      · have hltm : k < m.length := by rw [← HL.out]; exact hlt
        obtain ⟨ga, ea⟩ := row_some HK.out k hlt
        obtain ⟨gb, eb⟩ := row_some HM.out k hltm
        subst ea eb
        have hc := mrow_get (HK.out.move HW.out) k hlt
        have hd := mrow_get (HM.out.move HW.out) k hltm
        have HN := Lib.hid (alikeL_drop (l.map M.plain) (m.map M.plain) k (by simpa using hlt) (by simpa using hltm))
        rw [List.getElem_map, List.getElem_map] at HN
        have HQ : Hid (∀ W, Fresh wr W → Calls Tryz.prog 38 #[l[k].val, m[k].val] W fun e w' => e = .returned (.bool (l[k].plain.alike m[k].plain)) ∧ Fresh W w') := fun W hf => alike_any _ _ W ((HA.out _ (List.getElem_mem _)).move (HW.out.trans hf)) ((HB.out _ (List.getElem_mem _)).move (HW.out.trans hf))
        generalize l[k] = y at *
        generalize m[k] = z at *
        generalize y.plain.alike z.plain = b at *
        obtain ⟨yk, yf, yn, ys, yla, ylc, yl, yka, ykc, yks⟩ := y
        obtain ⟨zk, zf, zn, zs, zla, zlc, zl, zka, zkc, zks⟩ := z
        obtain ⟨c0, c1, c2, c3, c4, c5⟩ := hc
        obtain ⟨d0, d1, d2, d3, d4, d5⟩ := hd
        have hgb : gb < wr.heap.size := World.block_lt_of_cell? wr _ d0
        dsimp only [M.val] at HQ
        generalize yl.length = yln at *
        generalize yks.length = ykn at *
        generalize zl.length = zln at *
        generalize zks.length = zkn at *
        cases b with
        | true =>
          go_wp2_with fail
          refine (HQ.out _ (((Fresh.refl wr).alloc _).alloc _)).mono ?_
          rintro e w1 ⟨rfl, hf⟩
          have HW1 := Lib.hid (((HW.out.alloc _).alloc _).trans hf)
          clear hf
          go_wp2
          go_roundw
          case rel => exact ⟨k + 1, by omega, by go_num, by rw [Hid, HE.out, HN.out]; rfl, HW1.out⟩
          case measure => simp [intOf]; omega
        | false =>
          go_wp2_with fail
          refine (HQ.out _ (((Fresh.refl wr).alloc _).alloc _)).mono ?_
          rintro e w1 ⟨rfl, hf⟩
          have HW1 := Lib.hid (((HW.out.alloc _).alloc _).trans hf)
          clear hf
          go_wp2
          go_ret
          exact ⟨ret_bool (by rw [HE.out, HN.out]; rfl), HW1.out⟩
      · obtain rfl : k = l.length := by omega
        have H : Hid (alikeL (l.map M.plain) (m.map M.plain) = true) := by
          rw [Hid, HE.out, List.drop_eq_nil_of_le (by simp), List.drop_eq_nil_of_le (by simp [HL.out])]; rfl
        clear HE
        go_wp2
        go_ret
        exact ⟨ret_bool H.out.symm, HW.out⟩
  · have H : Hid (alikeL (l.map M.plain) (m.map M.plain) = false) := alikeL_parted (by simpa using hlen)
    have hb : ((l.length : Int) == (m.length : Int)) = false := beq_eq_false_iff_ne.2 (by omega)
    have hb2 : (l.length == m.length) = false := by simpa using hlen
    clear hlen
    rw [H.out]
    go_enter Tryz.func40, Tryz.ntmps40
    go_wp2
    go_ret
    exact ⟨rfl, Fresh.refl w⟩
end Go.Proofs.YthhdadfnkdjmkaaGreatDoor.v
