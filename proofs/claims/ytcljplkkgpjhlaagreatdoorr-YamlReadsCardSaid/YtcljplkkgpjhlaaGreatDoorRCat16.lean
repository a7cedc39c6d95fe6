/-
  Parts of the proof: VOfK VOf VDeeper.
-/
import Derived.Test.YtcljplkkgpjhlaaGreatDoorRCat15
import Derived.Test.YtcljplkkgpjhlaaGreatDoorRCat05
import Derived.Deep.CutBlock
set_option maxRecDepth 100000
set_option maxHeartbeats 8000000
namespace Go.Proofs.YtcljplkkgpjhlaaGreatDoorR
namespace v
open Go.ChangeShapes Go.WideShapes Go.ChangeAt Go.RowKit
attribute [local go_sem ↓] Go.wp_at_zero Go.wp_at_succ
def opsOfK : Array Oper := #[{ dst := some 39, op := .fieldAddr 36 (.tmp 3) 5, type := 0, pos := "law.go:59", after := #[], guard := none }, { dst := some 40, op := .load 34 (.tmp 39), type := 34, pos := "law.go:59", after := #[{ on := 0, ground := .data }], guard := none }, { dst := some 41, op := .fieldAddr 54 (.tmp 7) 0, type := 0, pos := "law.go:59", after := #[], guard := none }, { dst := some 42, op := .load 9 (.tmp 41), type := 9, pos := "law.go:59", after := #[{ on := 2, ground := .data }], guard := none }, { dst := some 43, op := .fieldAddr 54 (.tmp 7) 1, type := 0, pos := "law.go:59", after := #[], guard := none }, { dst := some 44, op := .load 27 (.tmp 43), type := 27, pos := "law.go:59", after := #[{ on := 4, ground := .data }], guard := none }, { dst := some 45, op := .call { callee := .value (.func 10), args := #[.tmp 44], argTypes := #[27] }, type := 36, pos := "law.go:59", after := #[{ on := 5, ground := .data }], guard := none }, { dst := some 46, op := .build 69 #[(0, .tmp 42), (1, .tmp 45)], type := 69, pos := "law.go:59", after := #[{ on := 3, ground := .data }, { on := 6, ground := .data }], guard := none }, { dst := some 47, op := .buildSlice 34 1 #[(0, .tmp 46)], type := 34, pos := "law.go:59", after := #[{ on := 7, ground := .data }], guard := none }, { dst := some 48, op := .call { callee := .builtin .append, args := #[.tmp 40, .tmp 47], argTypes := #[34, 34] }, type := 34, pos := "law.go:59", after := #[{ on := 1, ground := .data }, { on := 8, ground := .data }, { on := 6, ground := .chain }], guard := none }, { dst := some 49, op := .fieldAddr 36 (.tmp 3) 5, type := 0, pos := "law.go:59", after := #[{ on := 0, ground := .phase }, { on := 1, ground := .phase }, { on := 2, ground := .phase }, { on := 3, ground := .phase }, { on := 4, ground := .phase }, { on := 5, ground := .phase }, { on := 6, ground := .phase }, { on := 7, ground := .phase }, { on := 8, ground := .phase }, { on := 9, ground := .phase }], guard := none }, { dst := none, op := .store 34 (.tmp 49) (.tmp 48), type := 0, pos := "law.go:59", after := #[{ on := 10, ground := .data }, { on := 9, ground := .data }, { on := 9, ground := .chain }, { on := 0, ground := .phase }, { on := 1, ground := .phase }, { on := 2, ground := .phase }, { on := 3, ground := .phase }, { on := 4, ground := .phase }, { on := 5, ground := .phase }, { on := 6, ground := .phase }, { on := 7, ground := .phase }, { on := 8, ground := .phase }, { on := 9, ground := .phase }], guard := none }]
def oOfK_0 : Oper := { dst := some 39, op := .fieldAddr 36 (.tmp 3) 5, type := 0, pos := "law.go:59", after := #[], guard := none }
def oOfK_1 : Oper := { dst := some 40, op := .load 34 (.tmp 39), type := 34, pos := "law.go:59", after := #[{ on := 0, ground := .data }], guard := none }
def oOfK_2 : Oper := { dst := some 41, op := .fieldAddr 54 (.tmp 7) 0, type := 0, pos := "law.go:59", after := #[], guard := none }
def oOfK_3 : Oper := { dst := some 42, op := .load 9 (.tmp 41), type := 9, pos := "law.go:59", after := #[{ on := 2, ground := .data }], guard := none }
def oOfK_4 : Oper := { dst := some 43, op := .fieldAddr 54 (.tmp 7) 1, type := 0, pos := "law.go:59", after := #[], guard := none }
def oOfK_5 : Oper := { dst := some 44, op := .load 27 (.tmp 43), type := 27, pos := "law.go:59", after := #[{ on := 4, ground := .data }], guard := none }
def oOfK_6 : Oper := { dst := some 45, op := .call { callee := .value (.func 10), args := #[.tmp 44], argTypes := #[27] }, type := 36, pos := "law.go:59", after := #[{ on := 5, ground := .data }], guard := none }
def oOfK_7 : Oper := { dst := some 46, op := .build 69 #[(0, .tmp 42), (1, .tmp 45)], type := 69, pos := "law.go:59", after := #[{ on := 3, ground := .data }, { on := 6, ground := .data }], guard := none }
def oOfK_8 : Oper := { dst := some 47, op := .buildSlice 34 1 #[(0, .tmp 46)], type := 34, pos := "law.go:59", after := #[{ on := 7, ground := .data }], guard := none }
def oOfK_9 : Oper := { dst := some 48, op := .call { callee := .builtin .append, args := #[.tmp 40, .tmp 47], argTypes := #[34, 34] }, type := 34, pos := "law.go:59", after := #[{ on := 1, ground := .data }, { on := 8, ground := .data }, { on := 6, ground := .chain }], guard := none }
def oOfK_10 : Oper := { dst := some 49, op := .fieldAddr 36 (.tmp 3) 5, type := 0, pos := "law.go:59", after := #[{ on := 0, ground := .phase }, { on := 1, ground := .phase }, { on := 2, ground := .phase }, { on := 3, ground := .phase }, { on := 4, ground := .phase }, { on := 5, ground := .phase }, { on := 6, ground := .phase }, { on := 7, ground := .phase }, { on := 8, ground := .phase }, { on := 9, ground := .phase }], guard := none }
def oOfK_11 : Oper := { dst := none, op := .store 34 (.tmp 49) (.tmp 48), type := 0, pos := "law.go:59", after := #[{ on := 10, ground := .data }, { on := 9, ground := .data }, { on := 9, ground := .chain }, { on := 0, ground := .phase }, { on := 1, ground := .phase }, { on := 2, ground := .phase }, { on := 3, ground := .phase }, { on := 4, ground := .phase }, { on := 5, ground := .phase }, { on := 6, ground := .phase }, { on := 7, ground := .phase }, { on := 8, ground := .phase }, { on := 9, ground := .phase }], guard := none }
def tailOfK (k : Nat) : Bool := k == 10 || k == 11
structure QxIs (w0 w : World) (B N : Nat) (k : Int) (f : Bool) (nn : Int) (s : ByteArray) (oa : Option Addr) (on oc : Nat) (j : Nat) (la : Option Addr) (lc : Nat) (xs : List (ByteArray × M)) (os : List M) : Prop where
  low : B < N
  bx : w.heap[B]? = some (.cells #[.int .i64 k, .bool f, .int .i64 nn, .string s, .slice oa on oc, .slice la j lc] 36 (0, 0))
  rx : w.ownsRow N 69 7 (.slice la j lc) j (pcells xs)
  ax : ∀ x ∈ xs, x.2.Off B (Value.slice la j lc).ownBlock w
  ox : ∀ x ∈ os, x.Off B (Value.slice la j lc).ownBlock w
  le : N ≤ w.heap.size
  base : w0.heap.size ≤ B
  fresh : Fresh w0 w
theorem QxIs.move {w0 w w' : World} {B N : Nat} {k : Int} {f : Bool} {nn : Int} {s : ByteArray} {oa : Option Addr} {on oc : Nat} {j : Nat} {la : Option Addr} {lc : Nat} {xs : List (ByteArray × M)} {os : List M} (h : QxIs w0 w B N k f nn s oa on oc j la lc xs os) (g : Fresh w w') : QxIs w0 w' B N k f nn s oa on oc j la lc xs os :=
  ⟨h.low, g.at h.bx, owns_move h.rx g, fun x hx => (h.ax x hx).move g, fun x hx => (h.ox x hx).move g, Nat.le_trans h.le g.size, h.base, h.fresh.trans g⟩
structure Qx where
  w0 : World
  B : Nat
  N : Nat
  b : Nat
  k : Int
  f : Bool
  nn : Int
  s : ByteArray
  oa : Option Addr
  on : Nat
  oc : Nat
  key : ByteArray
  yk : Int
  yf : Bool
  yn : Int
  ys : ByteArray
  yla : Option Addr
  yln : Nat
  ylc : Nat
  yka : Option Addr
  ykn : Nat
  ykc : Nat
  y : M
  la : Option Addr
  j : Nat
  lc : Nat
  xs : List (ByteArray × M)
  os : List M
def Qx.cs (c : Qx) : Array Value := #[.int .i64 c.yk, .bool c.yf, .int .i64 c.yn, .string c.ys, .slice c.yla c.yln c.ylc, .slice c.yka c.ykn c.ykc]
def Qx.S (c : Qx) (u : World) : Prop := u.cell? ⟨c.B, 5, none⟩ = some (.slice c.la c.j c.lc) ∧ u.cell? ⟨c.b, 0, none⟩ = some (.string c.key) ∧ u.cell? ⟨c.b, 1, none⟩ = some (.int .i64 c.yk) ∧ u.cell? ⟨c.b, 2, none⟩ = some (.bool c.yf) ∧ u.cell? ⟨c.b, 3, none⟩ = some (.int .i64 c.yn) ∧ u.cell? ⟨c.b, 4, none⟩ = some (.string c.ys) ∧ u.cell? ⟨c.b, 5, none⟩ = some (.slice c.yla c.yln c.ylc) ∧ u.cell? ⟨c.b, 6, none⟩ = some (.slice c.yka c.ykn c.ykc)
structure Qx.W (c : Qx) (u : World) : Prop where
  is : QxIs c.w0 u c.B c.N c.k c.f c.nn c.s c.oa c.on c.oc c.j c.la c.lc c.xs c.os
  bw : u.heap[c.b]? = some (.cells #[.string c.key, .int .i64 c.yk, .bool c.yf, .int .i64 c.yn, .string c.ys, .slice c.yla c.yln c.ylc, .slice c.yka c.ykn c.ykc] 54 (0, 0))
theorem Qx.W.move {c : Qx} {u u' : World} (h : c.W u) (g : Fresh u u') : c.W u' := ⟨h.is.move g, g.at h.bw⟩
theorem Qx.W.S {c : Qx} {u : World} (h : c.W u) : c.S u := ⟨cell_of_at h.is.bx rfl, cell_of_at h.bw rfl, cell_of_at h.bw rfl, cell_of_at h.bw rfl, cell_of_at h.bw rfl, cell_of_at h.bw rfl, cell_of_at h.bw rfl, cell_of_at h.bw rfl⟩
structure Qx.At (c : Qx) (a : Act) : Prop where
  size : a.tmps.size = 52
  e3 : a.eval (.tmp 3) = .pointer (some ⟨c.B, 0, none⟩)
  e40 : a.eval (.tmp 40) = .slice c.la c.j c.lc
  e42 : a.eval (.tmp 42) = .string c.key
  e44 : a.eval (.tmp 44) = .agg c.cs
def Qx.loaded (c : Qx) (a : Act) : Act := ((((((a.put (some 39) (.pointer (some ⟨c.B, 5, none⟩))).put (some 40) (.slice c.la c.j c.lc)).put (some 41) (.pointer (some ⟨c.b, 0, none⟩))).put (some 42) (.string c.key)).put (some 43) (.pointer (some ⟨c.b, 1, none⟩))).put (some 44) (.agg c.cs))
variable {c : Qx} {a : Act} {Q : Exit → Act → World → Prop}
theorem stepsOfK (ha : c.At a) (w : World) (hW : c.W w) (hv : c.y.val = .agg c.cs) (hy : c.y.At w) (ih : OfSays c.y) (hj : c.j ≤ 1000000)
    (hQ : ∀ (z : M) (zk : Int) (zf : Bool) (zn : Int) (zs : ByteArray) (zla : Option Addr) (zlc : Nat) (zl : List M) (zka : Option Addr) (zkc : Nat) (zks : List (ByteArray × M)) (k1 g cap : Nat) (u' : World), z = (M.mk zk zf zn zs zla zlc zl zka zkc zks) → z.plain = c.y.plain → QxIs c.w0 u' c.B c.N c.k c.f c.nn c.s c.oa c.on c.oc (c.j + 1) (some ⟨g, 0, none⟩) cap (c.xs ++ [(c.key, z)]) c.os → Q .normal (((((a.put (some 45) (.agg #[.int .i64 zk, .bool zf, .int .i64 zn, .string zs, .slice zla zl.length zlc, .slice zka zks.length zkc])).put (some 46) (.agg #[.string c.key, .int .i64 zk, .bool zf, .int .i64 zn, .string zs, .slice zla zl.length zlc, .slice zka zks.length zkc])).put (some 47) (.slice (some ⟨k1, 0, none⟩) 1 1)).put (some 48) (.slice (some ⟨g, 0, none⟩) (c.j + 1) cap)).put (some 49) (.pointer (some ⟨c.B, 5, none⟩))) u') :
    Any2 Tryz.prog .any opsOfK Q c.S tailOfK 6 #[true, true, true, true, true, true, false, false, false, false, false, false] a w := by
  obtain ⟨i0, z0, hi, hz0, hzc, hz1, hz2⟩ := info_seven info56
  have g1 := ev_get (t := 44) (a := a) (v := .agg c.cs) (ha.e44)
  have hr : ∀ b : Act, b.tmps[44]?.getD undef = .agg c.cs → (execOp b.eval oOfK_6).run Tryz.prog w = .ok (.enter 10 #[.agg c.cs]) w := fun b g1 => by
    simp [execOp, oOfK_6, g1, go_sem]
  have hc := ih w hy
  rw [hv] at hc
  refine Any2.one (i := 6) (by kernel_rfl) (wpOp_call2 (o := oOfK_6) (by rfl) rfl (hr _ g1) hc ?_)
  clear g1 hr hc
  rintro e w1 ⟨⟨z, rfl, hza, hzp⟩, hf⟩
  refine ⟨_, rfl, ?_⟩
  have hW1 := hW.move hf
  have hlaN : ∀ k, (Value.slice c.la c.j c.lc).ownBlock = some k → k < w.heap.size := fun k e => (World.ownsRow.lt hW.is.rx k e).2
  have hzo : M.Off c.B (Value.slice c.la c.j c.lc).ownBlock w1 z := hza.off (lt_of_at hW.is.bx) hlaN
  clear hf hza
  refine ⟨fun _ => hW1.S, ?_⟩
  have HQ := hQ z
  obtain ⟨zk, zf, zn, zs, zla, zlc, zl, zka, zkc, zks⟩ := z
  have HQ2 := HQ zk zf zn zs zla zlc zl zka zkc zks
  clear HQ hQ
  show Any2 Tryz.prog .any opsOfK Q c.S tailOfK _ _ (a.put (some 45) (.agg #[.int .i64 zk, .bool zf, .int .i64 zn, .string zs, .slice zla zl.length zlc, .slice zka zks.length zkc])) w1
  have g0 := ev_get (t := 42) (a := (a.put (some 45) (.agg #[.int .i64 zk, .bool zf, .int .i64 zn, .string zs, .slice zla zl.length zlc, .slice zka zks.length zkc]))) (v := .string c.key) (by rw [ev_ne (by decide)]; exact ha.e42)
  have g1 := ev_get (t := 45) (a := (a.put (some 45) (.agg #[.int .i64 zk, .bool zf, .int .i64 zn, .string zs, .slice zla zl.length zlc, .slice zka zks.length zkc]))) (v := .agg #[.int .i64 zk, .bool zf, .int .i64 zn, .string zs, .slice zla zl.length zlc, .slice zka zks.length zkc]) (by exact ev_same (by rw [ha.size]; decide))
  have hr : ∀ b : Act, b.tmps[42]?.getD undef = .string c.key → b.tmps[45]?.getD undef = .agg #[.int .i64 zk, .bool zf, .int .i64 zn, .string zs, .slice zla zl.length zlc, .slice zka zks.length zkc] → (execOp b.eval oOfK_7).run Tryz.prog w1 = .ok (.value (.agg #[.string c.key, .int .i64 zk, .bool zf, .int .i64 zn, .string zs, .slice zla zl.length zlc, .slice zka zks.length zkc])) w1 := fun b g0 g1 => by
    simp [execOp, oOfK_7, g0, g1, go_sem]
  refine Any2.one (i := 7) (by kernel_rfl) (wpOp_run (o := oOfK_7) (by rfl) rfl (hr _ g0 g1) ⟨(fun _ => hW1.S), ?_⟩)
  clear hr g0 g1
  show Any2 Tryz.prog .any opsOfK Q c.S tailOfK _ _ ((a.put (some 45) (.agg #[.int .i64 zk, .bool zf, .int .i64 zn, .string zs, .slice zla zl.length zlc, .slice zka zks.length zkc])).put (some 46) (.agg #[.string c.key, .int .i64 zk, .bool zf, .int .i64 zn, .string zs, .slice zla zl.length zlc, .slice zka zks.length zkc])) w1
  have g0 := ev_get (t := 46) (a := ((a.put (some 45) (.agg #[.int .i64 zk, .bool zf, .int .i64 zn, .string zs, .slice zla zl.length zlc, .slice zka zks.length zkc])).put (some 46) (.agg #[.string c.key, .int .i64 zk, .bool zf, .int .i64 zn, .string zs, .slice zla zl.length zlc, .slice zka zks.length zkc]))) (v := .agg #[.string c.key, .int .i64 zk, .bool zf, .int .i64 zn, .string zs, .slice zla zl.length zlc, .slice zka zks.length zkc]) (by exact ev_same (by rw [put_size, ha.size]; decide))
  have hr : ∀ b : Act, b.tmps[46]?.getD undef = .agg #[.string c.key, .int .i64 zk, .bool zf, .int .i64 zn, .string zs, .slice zla zl.length zlc, .slice zka zks.length zkc] → (execOp b.eval oOfK_8).run Tryz.prog w1 = .ok (.value (.slice (some ⟨w1.heap.size, 0, none⟩) 1 1)) (w1.alloc (.cells #[.string c.key, .int .i64 zk, .bool zf, .int .i64 zn, .string zs, .slice zla zl.length zlc, .slice zka zks.length zkc] 69)) := fun b g0 => by
    simp [execOp, oOfK_8, g0, go_sem]
  have hal := (Fresh.refl w1).alloc (.cells #[.string c.key, .int .i64 zk, .bool zf, .int .i64 zn, .string zs, .slice zla zl.length zlc, .slice zka zks.length zkc] 69)
  have hW2 := hW1.move hal
  have hza2 := hzo.move hal
  have hk : (w1.alloc (.cells #[.string c.key, .int .i64 zk, .bool zf, .int .i64 zn, .string zs, .slice zla zl.length zlc, .slice zka zks.length zkc] 69)).heap[w1.heap.size]? = some (.cells #[.string c.key, .int .i64 zk, .bool zf, .int .i64 zn, .string zs, .slice zla zl.length zlc, .slice zka zks.length zkc] 69 (0, 0)) := at_new w1 _
  refine Any2.one (i := 8) (by kernel_rfl) (wpOp_run (o := oOfK_8) (by rfl) rfl (hr _ g0) ⟨(fun _ => hW2.S), ?_⟩)
  clear hr g0 hal hzo
  show Any2 Tryz.prog .any opsOfK Q c.S tailOfK _ _ (((a.put (some 45) (.agg #[.int .i64 zk, .bool zf, .int .i64 zn, .string zs, .slice zla zl.length zlc, .slice zka zks.length zkc])).put (some 46) (.agg #[.string c.key, .int .i64 zk, .bool zf, .int .i64 zn, .string zs, .slice zla zl.length zlc, .slice zka zks.length zkc])).put (some 47) (.slice (some ⟨w1.heap.size, 0, none⟩) 1 1)) (w1.alloc (.cells #[.string c.key, .int .i64 zk, .bool zf, .int .i64 zn, .string zs, .slice zla zl.length zlc, .slice zka zks.length zkc] 69))
  generalize w1.alloc (.cells #[.string c.key, .int .i64 zk, .bool zf, .int .i64 zn, .string zs, .slice zla zl.length zlc, .slice zka zks.length zkc] 69) = w2 at *
  generalize w1.heap.size = k1 at *
  have e0 : (((a.put (some 45) (.agg #[.int .i64 zk, .bool zf, .int .i64 zn, .string zs, .slice zla zl.length zlc, .slice zka zks.length zkc])).put (some 46) (.agg #[.string c.key, .int .i64 zk, .bool zf, .int .i64 zn, .string zs, .slice zla zl.length zlc, .slice zka zks.length zkc])).put (some 47) (.slice (some ⟨k1, 0, none⟩) 1 1)).eval (.tmp 40) = .slice c.la c.j c.lc := by rw [ev_ne (by decide), ev_ne (by decide), ev_ne (by decide)]; exact ha.e40
  have e1 : (((a.put (some 45) (.agg #[.int .i64 zk, .bool zf, .int .i64 zn, .string zs, .slice zla zl.length zlc, .slice zka zks.length zkc])).put (some 46) (.agg #[.string c.key, .int .i64 zk, .bool zf, .int .i64 zn, .string zs, .slice zla zl.length zlc, .slice zka zks.length zkc])).put (some 47) (.slice (some ⟨k1, 0, none⟩) 1 1)).eval (.tmp 47) = .slice (some ⟨k1, 0, none⟩) 1 1 := by exact ev_same (by rw [put_size, put_size, ha.size]; decide)
  refine Any2.one (i := 9) (by kernel_rfl) (wpOp_of (o := oOfK_9) (by rfl) rfl ?_)
  refine wp_append_lies (P := Tryz.prog) w2 (.tmp 40) (.tmp 47) 34 (by rfl) c.N 69 i0 z0 7 104 Tryz.underlying34 hi hz0 hz1 hz2 hzc (by decide) (.slice c.la c.j c.lc) c.j (pcells c.xs) e0 hW2.is.rx ⟨k1, 0, none⟩ 1 1 #[.string c.key, .int .i64 zk, .bool zf, .int .i64 zn, .string zs, .slice zla zl.length zlc, .slice zka zks.length zkc].toList e1 (by rfl) (World.news_of_block hk) (fun v hv => by
      simp only [List.mem_cons, List.not_mem_nil, or_false] at hv
      rcases hv with rfl | rfl | rfl | rfl | rfl | rfl | rfl <;> rfl) (by decide) (by unfold maxLen; omega) (by omega) hW2.is.le w2.heap.size rfl ?_
  clear e0 e1
  intro g cap w3 hown hgrow hat _
  have hne : ∀ ad : Addr, c.la = some ad → ad.block ≠ c.B := fun ad e => by have := (own_type hW2.is.rx ad e).1; have h2 := hW2.is.low; omega
  have hbx := grown_at hgrow hW2.is.bx hne
  have hfr : Fresh c.w0 w3 := hW2.is.fresh.grown hgrow (fun k e => by
    obtain ⟨ad, e1, e2⟩ := own_block e
    have h1 := (own_type hW2.is.rx ad e1).1
    have h2 := hW2.is.low
    have h3 := hW2.is.base
    omega)
  have hbw3 : w3.heap[c.b]? = _ := kept_other hW2.is.rx hgrow hW2.bw (by decide)
  have hx5 := cell_of_at hbx (i := 5) rfl
  have fx := (box_frozen hbx).2
  have hlt := lt_of_at hbx
  have hsz3 := hgrow.size
  have hgw : c.N ≤ g := by have := (World.ownsRow.lt hown g rfl).1; exact this
  have hIS : QxIs c.w0 (w3.setCell ⟨c.B, 5, none⟩ (.slice (some ⟨g, 0, none⟩) (c.j + 1) cap)) c.B c.N c.k c.f c.nn c.s c.oa c.on c.oc (c.j + 1) (some ⟨g, 0, none⟩) cap (c.xs ++ [(c.key, (M.mk zk zf zn zs zla zlc zl zka zkc zks))]) c.os := by
    have gs := grown_set w3 c.B 5 (.slice (some ⟨g, 0, none⟩) (c.j + 1) cap)
    refine ⟨hW2.is.low, ?_, ?_, ?_, fun x hx => ((hW2.is.ox x hx).grown hgrow hat).set, ?_, hW2.is.base, ?_⟩
    · simp [World.setCell, Array.getElem?_modify, hbx]
    · refine kept_row (xs := pcells (c.xs ++ [(c.key, (M.mk zk zf zn zs zla zlc zl zka zkc zks))])) (by rw [pcells_snoc]; exact hown) gs (fun ad e e2 => ?_)
      cases e
      injection e2 with e2
      have := hW2.is.low
      dsimp only at e2
      omega
    · intro x hx
      rcases List.mem_append.1 hx with hx | hx
      · exact ((hW2.is.ax x hx).grown hgrow hat).set
      · rw [List.mem_singleton] at hx
        subst hx
        exact (hza2.grown hgrow hat).set
    · have : (w3.setCell ⟨c.B, 5, none⟩ (.slice (some ⟨g, 0, none⟩) (c.j + 1) cap)).heap.size = w3.heap.size := by simp [World.setCell]
      have := hW2.is.le
      omega
    · exact hfr.setCell hW2.is.base _
  refine ⟨(fun _ => ⟨cell_of_at hbx rfl, cell_of_at hbw3 rfl, cell_of_at hbw3 rfl, cell_of_at hbw3 rfl, cell_of_at hbw3 rfl, cell_of_at hbw3 rfl, cell_of_at hbw3 rfl, cell_of_at hbw3 rfl⟩), ?_⟩
  show Any2 Tryz.prog .any opsOfK Q c.S tailOfK _ _ ((((a.put (some 45) (.agg #[.int .i64 zk, .bool zf, .int .i64 zn, .string zs, .slice zla zl.length zlc, .slice zka zks.length zkc])).put (some 46) (.agg #[.string c.key, .int .i64 zk, .bool zf, .int .i64 zn, .string zs, .slice zla zl.length zlc, .slice zka zks.length zkc])).put (some 47) (.slice (some ⟨k1, 0, none⟩) 1 1)).put (some 48) (.slice (some ⟨g, 0, none⟩) (c.j + 1) cap)) w3
  have g0 := ev_get (t := 3) (a := ((((a.put (some 45) (.agg #[.int .i64 zk, .bool zf, .int .i64 zn, .string zs, .slice zla zl.length zlc, .slice zka zks.length zkc])).put (some 46) (.agg #[.string c.key, .int .i64 zk, .bool zf, .int .i64 zn, .string zs, .slice zla zl.length zlc, .slice zka zks.length zkc])).put (some 47) (.slice (some ⟨k1, 0, none⟩) 1 1)).put (some 48) (.slice (some ⟨g, 0, none⟩) (c.j + 1) cap))) (v := .pointer (some ⟨c.B, 0, none⟩)) (by rw [ev_ne (by decide), ev_ne (by decide), ev_ne (by decide), ev_ne (by decide)]; exact ha.e3)
  have hr : ∀ b : Act, b.tmps[3]?.getD undef = .pointer (some ⟨c.B, 0, none⟩) → (execOp b.eval oOfK_10).run Tryz.prog w3 = .ok (.value (.pointer (some ⟨c.B, 5, none⟩))) w3 := fun b g0 => by
    simp [execOp, oOfK_10, g0, go_sem]
  refine Any2.one (i := 10) (by kernel_rfl) (wpOp_run (o := oOfK_10) (by rfl) rfl (hr _ g0) ⟨(fun h => by cases h), ?_⟩)
  clear hr g0
  show Any2 Tryz.prog .any opsOfK Q c.S tailOfK _ _ (((((a.put (some 45) (.agg #[.int .i64 zk, .bool zf, .int .i64 zn, .string zs, .slice zla zl.length zlc, .slice zka zks.length zkc])).put (some 46) (.agg #[.string c.key, .int .i64 zk, .bool zf, .int .i64 zn, .string zs, .slice zla zl.length zlc, .slice zka zks.length zkc])).put (some 47) (.slice (some ⟨k1, 0, none⟩) 1 1)).put (some 48) (.slice (some ⟨g, 0, none⟩) (c.j + 1) cap)).put (some 49) (.pointer (some ⟨c.B, 5, none⟩))) w3
  have g0 := ev_get (t := 49) (a := (((((a.put (some 45) (.agg #[.int .i64 zk, .bool zf, .int .i64 zn, .string zs, .slice zla zl.length zlc, .slice zka zks.length zkc])).put (some 46) (.agg #[.string c.key, .int .i64 zk, .bool zf, .int .i64 zn, .string zs, .slice zla zl.length zlc, .slice zka zks.length zkc])).put (some 47) (.slice (some ⟨k1, 0, none⟩) 1 1)).put (some 48) (.slice (some ⟨g, 0, none⟩) (c.j + 1) cap)).put (some 49) (.pointer (some ⟨c.B, 5, none⟩)))) (v := .pointer (some ⟨c.B, 5, none⟩)) (by exact ev_same (by rw [put_size, put_size, put_size, put_size, ha.size]; decide))
  have g1 := ev_get (t := 48) (a := (((((a.put (some 45) (.agg #[.int .i64 zk, .bool zf, .int .i64 zn, .string zs, .slice zla zl.length zlc, .slice zka zks.length zkc])).put (some 46) (.agg #[.string c.key, .int .i64 zk, .bool zf, .int .i64 zn, .string zs, .slice zla zl.length zlc, .slice zka zks.length zkc])).put (some 47) (.slice (some ⟨k1, 0, none⟩) 1 1)).put (some 48) (.slice (some ⟨g, 0, none⟩) (c.j + 1) cap)).put (some 49) (.pointer (some ⟨c.B, 5, none⟩)))) (v := .slice (some ⟨g, 0, none⟩) (c.j + 1) cap) (by rw [ev_ne (by decide)]; exact ev_same (by rw [put_size, put_size, put_size, ha.size]; decide))
  have hr : ∀ b : Act, b.tmps[49]?.getD undef = .pointer (some ⟨c.B, 5, none⟩) → b.tmps[48]?.getD undef = .slice (some ⟨g, 0, none⟩) (c.j + 1) cap → (execOp b.eval oOfK_11).run Tryz.prog w3 = .ok .skip (w3.setCell ⟨c.B, 5, none⟩ (.slice (some ⟨g, 0, none⟩) (c.j + 1) cap)) := fun b g0 g1 => by
    simp [execOp, oOfK_11, g0, g1, go_sem, hx5, fx]
  refine Any2.one (i := 11) (by kernel_rfl) (wpOp_skip (o := oOfK_11) (by rfl) rfl rfl (hr _ g0 g1) ⟨(fun h => by cases h), ?_⟩)
  exact Any2.end (by kernel_rfl) (HQ2 k1 g cap _ rfl hzp hIS)
theorem regionOfK (w : World) (hs : a.tmps.size = 52) (e3 : a.eval (.tmp 3) = .pointer (some ⟨c.B, 0, none⟩)) (e7 : a.eval (.tmp 7) = .pointer (some ⟨c.b, 0, none⟩)) (hW0 : c.W w) (hv : c.y.val = .agg c.cs) (hy : c.y.At w) (ih : OfSays c.y) (hj : c.j ≤ 1000000) (hpan : ∀ p (d : Nat) v (b : Act) u, Q (.panic p) (b.put (some d) v) u → Q (.panic p) b u)
    (hQ : ∀ (z : M) (zk : Int) (zf : Bool) (zn : Int) (zs : ByteArray) (zla : Option Addr) (zlc : Nat) (zl : List M) (zka : Option Addr) (zkc : Nat) (zks : List (ByteArray × M)) (k1 g cap : Nat) (u' : World), z = (M.mk zk zf zn zs zla zlc zl zka zkc zks) → z.plain = c.y.plain → QxIs c.w0 u' c.B c.N c.k c.f c.nn c.s c.oa c.on c.oc (c.j + 1) (some ⟨g, 0, none⟩) cap (c.xs ++ [(c.key, z)]) c.os → Q .normal ((((((c.loaded a).put (some 45) (.agg #[.int .i64 zk, .bool zf, .int .i64 zn, .string zs, .slice zla zl.length zlc, .slice zka zks.length zkc])).put (some 46) (.agg #[.string c.key, .int .i64 zk, .bool zf, .int .i64 zn, .string zs, .slice zla zl.length zlc, .slice zka zks.length zkc])).put (some 47) (.slice (some ⟨k1, 0, none⟩) 1 1)).put (some 48) (.slice (some ⟨g, 0, none⟩) (c.j + 1) cap)).put (some 49) (.pointer (some ⟨c.B, 5, none⟩))) u') : (Code.region 10 opsOfK true).wp Tryz.prog Q a w := by
  have hW := hW0.move (Fresh.refl w).drew
  have hS := hW.S
  refine Any2.start (S := c.S) (tail := tailOfK) (by kernel_rfl) ?_
  have hsz : opsOfK.size = 11 + 1 := rfl
  rw [hsz]
  refine Any2.take (i := 0) (oi := oOfK_0) (v := .pointer (some ⟨c.B, 5, none⟩)) (by rfl) (by kernel_rfl) (by kernel_rfl) (by kernel_rfl) (by rfl) (by kernel_rfl) (by kernel_rfl) (fun p b u h => hpan p _ _ b u h) hS (.inl ⟨by rfl, fun u hu => ?_⟩) ?_
  · have g := ev_get (t := 3) (a := a) (v := .pointer (some ⟨c.B, 0, none⟩)) (e3)
    simp [execOp, oOfK_0, g, go_sem]
  show Any2 Tryz.prog .any opsOfK Q c.S tailOfK _ _ (a.put (some 39) (.pointer (some ⟨c.B, 5, none⟩))) w.drew
  refine Any2.take (i := 1) (oi := oOfK_1) (v := .slice c.la c.j c.lc) (by rfl) (by kernel_rfl) (by kernel_rfl) (by kernel_rfl) (by rfl) (by kernel_rfl) (by kernel_rfl) (fun p b u h => hpan p _ _ b u h) hS (.inl ⟨by rfl, fun u hu => ?_⟩) ?_
  · have g := ev_get (t := 39) (a := (a.put (some 39) (.pointer (some ⟨c.B, 5, none⟩)))) (v := .pointer (some ⟨c.B, 5, none⟩)) (by exact ev_same (by rw [hs]; decide))
    obtain ⟨h1, kk, k0, k1, k2, k3, k4, k5⟩ := hu
    generalize (a.put (some 39) (.pointer (some ⟨c.B, 5, none⟩))) = b at *
    simp [execOp, oOfK_1, g, go_sem, h1]
  show Any2 Tryz.prog .any opsOfK Q c.S tailOfK _ _ ((a.put (some 39) (.pointer (some ⟨c.B, 5, none⟩))).put (some 40) (.slice c.la c.j c.lc)) w.drew
  refine Any2.take (i := 2) (oi := oOfK_2) (v := .pointer (some ⟨c.b, 0, none⟩)) (by rfl) (by kernel_rfl) (by kernel_rfl) (by kernel_rfl) (by rfl) (by kernel_rfl) (by kernel_rfl) (fun p b u h => hpan p _ _ b u h) hS (.inl ⟨by rfl, fun u hu => ?_⟩) ?_
  · have g := ev_get (t := 7) (a := ((a.put (some 39) (.pointer (some ⟨c.B, 5, none⟩))).put (some 40) (.slice c.la c.j c.lc))) (v := .pointer (some ⟨c.b, 0, none⟩)) (by rw [ev_ne (by decide), ev_ne (by decide)]; exact e7)
    generalize ((a.put (some 39) (.pointer (some ⟨c.B, 5, none⟩))).put (some 40) (.slice c.la c.j c.lc)) = b at *
    simp [execOp, oOfK_2, g, go_sem]
  show Any2 Tryz.prog .any opsOfK Q c.S tailOfK _ _ (((a.put (some 39) (.pointer (some ⟨c.B, 5, none⟩))).put (some 40) (.slice c.la c.j c.lc)).put (some 41) (.pointer (some ⟨c.b, 0, none⟩))) w.drew
  refine Any2.take (i := 3) (oi := oOfK_3) (v := .string c.key) (by rfl) (by kernel_rfl) (by kernel_rfl) (by kernel_rfl) (by rfl) (by kernel_rfl) (by kernel_rfl) (fun p b u h => hpan p _ _ b u h) hS (.inl ⟨by rfl, fun u hu => ?_⟩) ?_
  · have g := ev_get (t := 41) (a := (((a.put (some 39) (.pointer (some ⟨c.B, 5, none⟩))).put (some 40) (.slice c.la c.j c.lc)).put (some 41) (.pointer (some ⟨c.b, 0, none⟩)))) (v := .pointer (some ⟨c.b, 0, none⟩)) (by exact ev_same (by rw [put_size, put_size, hs]; decide))
    obtain ⟨h1, kk, k0, k1, k2, k3, k4, k5⟩ := hu
    generalize (((a.put (some 39) (.pointer (some ⟨c.B, 5, none⟩))).put (some 40) (.slice c.la c.j c.lc)).put (some 41) (.pointer (some ⟨c.b, 0, none⟩))) = b at *
    simp [execOp, oOfK_3, g, go_sem, kk]
  show Any2 Tryz.prog .any opsOfK Q c.S tailOfK _ _ ((((a.put (some 39) (.pointer (some ⟨c.B, 5, none⟩))).put (some 40) (.slice c.la c.j c.lc)).put (some 41) (.pointer (some ⟨c.b, 0, none⟩))).put (some 42) (.string c.key)) w.drew
  refine Any2.take (i := 4) (oi := oOfK_4) (v := .pointer (some ⟨c.b, 1, none⟩)) (by rfl) (by kernel_rfl) (by kernel_rfl) (by kernel_rfl) (by rfl) (by kernel_rfl) (by kernel_rfl) (fun p b u h => hpan p _ _ b u h) hS (.inl ⟨by rfl, fun u hu => ?_⟩) ?_
  · have g := ev_get (t := 7) (a := ((((a.put (some 39) (.pointer (some ⟨c.B, 5, none⟩))).put (some 40) (.slice c.la c.j c.lc)).put (some 41) (.pointer (some ⟨c.b, 0, none⟩))).put (some 42) (.string c.key))) (v := .pointer (some ⟨c.b, 0, none⟩)) (by rw [ev_ne (by decide), ev_ne (by decide), ev_ne (by decide), ev_ne (by decide)]; exact e7)
    generalize ((((a.put (some 39) (.pointer (some ⟨c.B, 5, none⟩))).put (some 40) (.slice c.la c.j c.lc)).put (some 41) (.pointer (some ⟨c.b, 0, none⟩))).put (some 42) (.string c.key)) = b at *
    simp [execOp, oOfK_4, g, go_sem]
  show Any2 Tryz.prog .any opsOfK Q c.S tailOfK _ _ (((((a.put (some 39) (.pointer (some ⟨c.B, 5, none⟩))).put (some 40) (.slice c.la c.j c.lc)).put (some 41) (.pointer (some ⟨c.b, 0, none⟩))).put (some 42) (.string c.key)).put (some 43) (.pointer (some ⟨c.b, 1, none⟩))) w.drew
  refine Any2.take (i := 5) (oi := oOfK_5) (v := .agg c.cs) (by rfl) (by kernel_rfl) (by kernel_rfl) (by kernel_rfl) (by rfl) (by kernel_rfl) (by kernel_rfl) (fun p b u h => hpan p _ _ b u h) hS (.inl ⟨by rfl, fun u hu => ?_⟩) ?_
  · have g := ev_get (t := 43) (a := (((((a.put (some 39) (.pointer (some ⟨c.B, 5, none⟩))).put (some 40) (.slice c.la c.j c.lc)).put (some 41) (.pointer (some ⟨c.b, 0, none⟩))).put (some 42) (.string c.key)).put (some 43) (.pointer (some ⟨c.b, 1, none⟩)))) (v := .pointer (some ⟨c.b, 1, none⟩)) (by exact ev_same (by rw [put_size, put_size, put_size, put_size, hs]; decide))
    obtain ⟨h1, kk, k0, k1, k2, k3, k4, k5⟩ := hu
    generalize (((((a.put (some 39) (.pointer (some ⟨c.B, 5, none⟩))).put (some 40) (.slice c.la c.j c.lc)).put (some 41) (.pointer (some ⟨c.b, 0, none⟩))).put (some 42) (.string c.key)).put (some 43) (.pointer (some ⟨c.b, 1, none⟩))) = b at *
    simp [execOp, oOfK_5, g, go_sem, k0, k1, k2, k3, k4, k5, Qx.cs]
  show Any2 Tryz.prog .any opsOfK Q c.S tailOfK _ _ ((((((a.put (some 39) (.pointer (some ⟨c.B, 5, none⟩))).put (some 40) (.slice c.la c.j c.lc)).put (some 41) (.pointer (some ⟨c.b, 0, none⟩))).put (some 42) (.string c.key)).put (some 43) (.pointer (some ⟨c.b, 1, none⟩))).put (some 44) (.agg c.cs)) w.drew
  have hL : Qx.At c (c.loaded a) := by
    refine ⟨?_, ?_, ?_, ?_, ?_⟩
    · simp only [Qx.loaded, put_size, hs]
    · rw [Qx.loaded]; exact (by rw [ev_ne (by decide), ev_ne (by decide), ev_ne (by decide), ev_ne (by decide), ev_ne (by decide), ev_ne (by decide)]; exact e3)
    · rw [Qx.loaded]; exact (by rw [ev_ne (by decide), ev_ne (by decide), ev_ne (by decide), ev_ne (by decide)]; exact ev_same (by rw [put_size, hs]; decide))
    · rw [Qx.loaded]; exact (by rw [ev_ne (by decide), ev_ne (by decide)]; exact ev_same (by rw [put_size, put_size, put_size, hs]; decide))
    · rw [Qx.loaded]; exact (by exact ev_same (by rw [put_size, put_size, put_size, put_size, put_size, hs]; decide))
  exact (congrArg (fun D => Any2 Tryz.prog .any opsOfK Q c.S tailOfK 6 D (c.loaded a) w.drew) (show _ = #[true, true, true, true, true, true, false, false, false, false, false, false] by kernel_rfl)).mpr (stepsOfK hL w.drew hW hv (hy.move (Fresh.refl w).drew) ih hj hQ)
end v
namespace v
open Go.ChangeShapes Go.WideShapes Go.ChangeAt Go.RowKit
attribute [local go_sem ↓] Go.wp_at_zero Go.wp_at_succ
theorem M.Off.wide {B : Nat} {g : Option Nat} {w : World} {m : M} (h : m.Off B g w) : m.Off B none w := h.cells fun gg j x e => by
  obtain ⟨h1, h2⟩ := wo_cell e
  rw [decide_eq_false_iff_not] at h1
  refine wo_up ?_ h2
  rw [decide_eq_false_iff_not]
  rintro (e2 | e2)
  · exact h1 (.inl e2)
  · cases e2
theorem row_off {B : Nat} {w : World} {a : Option Addr} {cs : List Value} (h : RowAt w a cs) (hN : ∀ ad, a = some ad → B + 1 ≤ ad.block) : RowAt (Wo (fun k => decide (k ≤ B ∨ some k = (none : Option Nat))) w) a cs := by
  rcases h with h | ⟨g, e, h⟩
  · exact .inl h
  · refine .inr ⟨g, e, fun j x hj => wo_up ?_ (h j x hj)⟩
    have := hN _ e
    rw [decide_eq_false_iff_not]
    rintro (e2 | e2)
    · dsimp only at this; omega
    · cases e2
theorem of_maps {ps : List (ByteArray × M)} {qs : List (ByteArray × M)} (h : ps.map (fun p => (p.1, p.2.plain)) = qs.map fun p => (p.1, p.2.plain)) (hq : ∀ p ∈ qs, p.1.size ≤ 1000000) : ∀ p ∈ ps, p.1.size ≤ 1000000 := by
  intro p hp
  have h1 : (p.1, p.2.plain) ∈ ps.map fun p => (p.1, p.2.plain) := List.mem_map.2 ⟨p, hp, rfl⟩
  rw [h] at h1
  obtain ⟨q, hq1, hq2⟩ := List.mem_map.1 h1
  have := hq q hq1
  have e : q.1 = p.1 := by
    simp only [Prod.mk.injEq] at hq2
    exact hq2.1
  rw [← e]; exact this
theorem size33 : (Tryz.prog.info? 36).map (·.size) = some 6 := by kernel_rfl
theorem of_step (m : M) (w : World) (hat : m.At w) (ih : ∀ x, (x ∈ m.list ∨ ∃ key, (key, x) ∈ m.keys) → OfSays x) :
    Calls Tryz.prog 10 #[m.val] w fun e w' => (∃ z : M, e = .returned z.val ∧ z.New w.heap.size w' ∧ z.plain = m.plain) ∧ Fresh w w' := by
  obtain ⟨k, f, n, s, la, lc, l, ka, kc, ks⟩ := m
  have HAT := Lib.hid hat.parts
  have HIH : Hid (∀ x, (x ∈ l ∨ ∃ key, (key, x) ∈ ks) → OfSays x) := ih
  clear hat ih
  dsimp only [M.val, M.plain]
  rw [plainL_eq, plainK_eq]
  have HLN : Hid (l.length ≤ 1000000 ∧ ks.length ≤ 1000000) := ⟨HAT.out.2.2.2.1, HAT.out.2.2.2.2.1⟩
  generalize hln : l.length = ln at *
  generalize hkn : ks.length = kn at *
  have HLK : Hid (l.length = ln ∧ ks.length = kn) := ⟨hln, hkn⟩
  clear hln hkn
  go_enter Tryz.func10, Tryz.ntmps10
  go_wp2
  have HB1 : Hid (((w.alloc (.cells #[.int .i64 k, .bool f, .int .i64 n, .string s, .slice la ln lc, .slice ka kn kc] 27)).alloc (.cells #[.int .i64 0, .bool false, .int .i64 0, .string ⟨#[]⟩, .slice none 0 0, .slice none 0 0] 36)).heap[w.heap.size]? = some (.cells #[.int .i64 k, .bool f, .int .i64 n, .string s, .slice la ln lc, .slice ka kn kc] 27 (0, 0))) := at_alloc (at_new w _)
  have HB2 : Hid (((w.alloc (.cells #[.int .i64 k, .bool f, .int .i64 n, .string s, .slice la ln lc, .slice ka kn kc] 27)).alloc (.cells #[.int .i64 0, .bool false, .int .i64 0, .string ⟨#[]⟩, .slice none 0 0, .slice none 0 0] 36)).heap[w.heap.size + 1]? = some (.cells #[.int .i64 0, .bool false, .int .i64 0, .string ⟨#[]⟩, .slice none 0 0, .slice none 0 0] 36 (0, 0))) := by
    have := at_new (w.alloc (.cells #[.int .i64 k, .bool f, .int .i64 n, .string s, .slice la ln lc, .slice ka kn kc] 27)) (.cells #[.int .i64 0, .bool false, .int .i64 0, .string ⟨#[]⟩, .slice none 0 0, .slice none 0 0] 36)
    rw [World.size_alloc] at this; exact this
  have HWW : Hid (Fresh w ((w.alloc (.cells #[.int .i64 k, .bool f, .int .i64 n, .string s, .slice la ln lc, .slice ka kn kc] 27)).alloc (.cells #[.int .i64 0, .bool false, .int .i64 0, .string ⟨#[]⟩, .slice none 0 0, .slice none 0 0] 36))) := ((Fresh.refl w).alloc _).alloc _
  have HSZ : Hid (((w.alloc (.cells #[.int .i64 k, .bool f, .int .i64 n, .string s, .slice la ln lc, .slice ka kn kc] 27)).alloc (.cells #[.int .i64 0, .bool false, .int .i64 0, .string ⟨#[]⟩, .slice none 0 0, .slice none 0 0] 36)).heap.size = w.heap.size + 1 + 1) := by
    rw [Hid, World.size_alloc, World.size_alloc]
  have HLS : Hid (LxIs ((w.alloc (.cells #[.int .i64 k, .bool f, .int .i64 n, .string s, .slice la ln lc, .slice ka kn kc] 27)).alloc (.cells #[.int .i64 0, .bool false, .int .i64 0, .string ⟨#[]⟩, .slice none 0 0, .slice none 0 0] 36)) (((w.alloc (.cells #[.int .i64 k, .bool f, .int .i64 n, .string s, .slice la ln lc, .slice ka kn kc] 27)).alloc (.cells #[.int .i64 0, .bool false, .int .i64 0, .string ⟨#[]⟩, .slice none 0 0, .slice none 0 0] 36)).alloc (.cells #[.int .i64 k, .bool f, .int .i64 n, .string s, .slice none 0 0, .slice none 0 0] 36)) (w.heap.size + 1 + 1) (w.heap.size + 1 + 1 + 1) k f n s 0 none 0 []) := by
    refine ⟨by omega, ?_, World.ownsRow_nil _ _ _ _, (fun x hx => by cases hx), ?_, ?_, (Fresh.refl _).alloc _⟩
    · have := at_new ((w.alloc (.cells #[.int .i64 k, .bool f, .int .i64 n, .string s, .slice la ln lc, .slice ka kn kc] 27)).alloc (.cells #[.int .i64 0, .bool false, .int .i64 0, .string ⟨#[]⟩, .slice none 0 0, .slice none 0 0] 36)) (.cells #[.int .i64 k, .bool f, .int .i64 n, .string s, .slice none 0 0, .slice none 0 0] 36)
      rw [HSZ.out] at this; exact this
    · rw [World.size_alloc, HSZ.out]; exact Nat.le_refl _
    · rw [HSZ.out]; exact Nat.le_refl _
  generalize ((w.alloc (.cells #[.int .i64 k, .bool f, .int .i64 n, .string s, .slice la ln lc, .slice ka kn kc] 27)).alloc (.cells #[.int .i64 0, .bool false, .int .i64 0, .string ⟨#[]⟩, .slice none 0 0, .slice none 0 0] 36)).alloc (.cells #[.int .i64 k, .bool f, .int .i64 n, .string s, .slice none 0 0, .slice none 0 0] 36) = wb at *
  generalize ((w.alloc (.cells #[.int .i64 k, .bool f, .int .i64 n, .string s, .slice la ln lc, .slice ka kn kc] 27)).alloc (.cells #[.int .i64 0, .bool false, .int .i64 0, .string ⟨#[]⟩, .slice none 0 0, .slice none 0 0] 36)) = wo at *
  generalize hN0 : w.heap.size = N0 at *
  have HN0 := Lib.hid hN0
  clear hN0
  have HI1 := HLN.out.1
  have HI2 := HLN.out.2
  go_loopw [20] (fun a20 wq => ∃ (j : Nat) (ra : Option Addr) (rc : Nat) (xs : List M), j ≤ ln ∧ a20 = .int .i64 j ∧ Hid (xs.map M.plain = (l.take j).map M.plain) ∧ Hid (LxIs wo wq (N0 + 1 + 1) (N0 + 1 + 1 + 1) k f n s j ra rc xs)) (fun a20 _ => ln - (intOf a20).toNat)
  case atStart => exact ⟨0, none, 0, [], Nat.zero_le _, rfl, rfl, HLS.out⟩
  case round =>
    obtain ⟨j, ra, rc, xs, hj, rfl, HX, HL⟩ := hrel
    clear HLS
    by_cases hlq : j < ln
    · have hlj : j < l.length := by rw [HLK.out.1]; exact hlq
      have hrow := HAT.out.2.1.move (HWW.out.trans HL.out.fresh)
      obtain ⟨ga, ea⟩ := row_some hrow j hlj
      subst ea
      have hy := mrow_get hrow j hlj
      have HTX : Hid (l.take (j + 1) = l.take j ++ [l[j]]) := by rw [Hid, List.take_succ_eq_append_getElem hlj]
      have HYI : Hid (OfSays l[j]) := HIH.out _ (.inl (List.getElem_mem _))
      have HYA : Hid (l[j].At w) := HAT.out.2.2.2.2.2.2.1 _ (List.getElem_mem _)
      have i1 : (0 : Int) ≤ (j : Int) := by omega
      have i2 : (j : Int) < ((ln : Nat) : Int) := by omega
      clear hrow
      generalize l[j] = y at *
      obtain ⟨yk, yf, yn, ys, yla, ylc, yl, yka, ykc, yks⟩ := y
      obtain ⟨d0, d1, d2, d3, d4, d5⟩ := hy
      generalize hyln : yl.length = yln at *
      generalize hykn : yks.length = ykn at *
      have HYV : Hid ((M.mk yk yf yn ys yla ylc yl yka ykc yks).val = mval yk yf yn ys yla yln ylc yka ykn ykc) := by rw [Hid, M.val, hyln, hykn]
      clear hyln hykn
      go_upto_block 1 with (fail)
      go_cut [20] (fun a20 wd => a20 = .int .i64 j ∧ ∃ (g cap : Nat) (z : M), Hid (z.plain = (M.mk yk yf yn ys yla ylc yl yka ykc yks).plain) ∧ Hid (LxIs wo wd (N0 + 1 + 1) (N0 + 1 + 1 + 1) k f n s (j + 1) (some ⟨g, 0, none⟩) cap (xs ++ [z])))
      case first =>
        go_wp2_with fail
        refine regionOfL (c := ⟨wo, N0 + 1 + 1, N0 + 1 + 1 + 1, wr.heap.size, k, f, n, s, yk, yf, yn, ys, yla, yln, ylc, yka, ykn, ykc, M.mk yk yf yn ys yla ylc yl yka ykc yks, ra, j, rc, xs⟩) _ rfl rfl rfl ⟨HL.out.move ((Fresh.refl wr).alloc _), at_new wr _⟩ HYV.out (HYA.out.move (HWW.out.trans (HL.out.fresh.trans ((Fresh.refl wr).alloc _)))) HYI.out (by show j ≤ 1000000; omega) (fun _ _ _ _ _ h => h) ?_
        intro z zk zf zn zs zla zlc zl zka zkc zks k1 g cap u' ez hz hLn
        have HZ := Lib.hid hz
        have HLn := Lib.hid hLn
        clear ez hz hLn
        simp only [Lx.loaded, Lx.cs, Act.put, List.setIfInBounds_toArray, List.set_cons_zero, List.set_cons_succ]
        go_wp2
        go_meet
        case rel => exact ⟨rfl, _, _, z, HZ.out, HLn.out⟩
      case rest =>
        obtain ⟨rfl, g, cap, z, HZ, HLn⟩ := hcut
        have HX2 : Hid ((xs ++ [z]).map M.plain = (l.take (j + 1)).map M.plain) := by
          rw [Hid, HTX.out, List.map_append, List.map_append, HX.out, List.map_singleton, List.map_singleton, HZ.out]
        go_wp2
        go_roundw
        case rel => exact ⟨j + 1, _, _, _, by omega, by go_num, HX2.out, HLn.out⟩
        case measure => simp [intOf]; omega
    · obtain rfl : j = ln := by omega
      have HX2 : Hid (xs.map M.plain = l.map M.plain) := by
        have := HX.out
        rw [List.take_of_length_le (by rw [HLK.out.1]; exact Nat.le_refl _)] at this
        exact this
      have p5 : wr.cell? ⟨N0, 5, none⟩ = some (.slice ka kn kc) := cell_of_at (HL.out.fresh.at HB1.out) rfl
      have HXL : Hid (xs.length = j) := by
        have := congrArg List.length HX2.out
        rw [List.length_map, List.length_map, HLK.out.1] at this
        exact this
      have HOS : Hid ((M.mk 4 f n s ra rc xs none 0 []).Off (N0 + 1 + 1) none wr) := by
        refine .mk HAT.out.1 (row_off (RowAt.owns HL.out.rx) (fun ad e => (own_type HL.out.rx ad e).1)) (.inl ⟨rfl, rfl⟩) (by rw [HXL.out]; omega) (by simp) (fun p hp => by cases hp) (fun x hx => (HL.out.ax x hx).wide) (fun p hp => by cases hp)
      have HQS : Hid (QxIs wo wr (N0 + 1 + 1) (N0 + 1 + 1 + 1) k f n s ra j rc 0 none 0 [] [M.mk 4 f n s ra rc xs none 0 []]) :=
        ⟨HL.out.low, HL.out.bx, World.ownsRow_nil _ _ _ _, (fun x hx => by cases hx), (fun x hx => by rw [List.mem_singleton] at hx; subst hx; exact HOS.out), HL.out.le, HL.out.base, HL.out.fresh⟩
      clear HOS HL HX
      go_wp2
      go_loopw [35] (fun a35 wq => ∃ (i : Nat) (pa : Option Addr) (pc : Nat) (ps : List (ByteArray × M)), i ≤ kn ∧ a35 = .int .i64 i ∧ Hid (ps.map (fun p => (p.1, p.2.plain)) = (ks.take i).map fun p => (p.1, p.2.plain)) ∧ Hid (QxIs wo wq (N0 + 1 + 1) (N0 + 1 + 1 + 1) k f n s ra j rc i pa pc ps [M.mk 4 f n s ra rc xs none 0 []])) (fun a35 _ => kn - (intOf a35).toNat)
      case atStart => exact ⟨0, none, 0, [], Nat.zero_le _, rfl, rfl, HQS.out⟩
      case round =>
        obtain ⟨i, pa, pc, ps, hi, rfl, HP, HQ⟩ := hrel
        clear HQS p5
        by_cases hlq : i < kn
        · have hli : i < ks.length := by rw [HLK.out.2]; exact hlq
          have hrow := HAT.out.2.2.1.move (HWW.out.trans HQ.out.fresh)
          obtain ⟨ga, ea⟩ := prow_some hrow i hli
          subst ea
          have hy := prow_get hrow i hli
          have HTX : Hid (ks.take (i + 1) = ks.take i ++ [ks[i]]) := by rw [Hid, List.take_succ_eq_append_getElem hli]
          have HYI : Hid (OfSays ks[i].2) := HIH.out _ (.inr ⟨ks[i].1, List.getElem_mem _⟩)
          have HYA : Hid (ks[i].2.At w) := HAT.out.2.2.2.2.2.2.2 _ (List.getElem_mem _)
          have i1 : (0 : Int) ≤ (i : Int) := by omega
          have i2 : (i : Int) < ((kn : Nat) : Int) := by omega
          clear hrow
          generalize ks[i] = p at *
          obtain ⟨key, y⟩ := p
          obtain ⟨yk, yf, yn, ys, yla, ylc, yl, yka, ykc, yks⟩ := y
          dsimp only at hy HTX HYI HYA
          obtain ⟨dk, d0, d1, d2, d3, d4, d5⟩ := hy
          generalize hyln : yl.length = yln at *
          generalize hykn : yks.length = ykn at *
          have HYV : Hid ((M.mk yk yf yn ys yla ylc yl yka ykc yks).val = mval yk yf yn ys yla yln ylc yka ykn ykc) := by rw [Hid, M.val, hyln, hykn]
          clear hyln hykn
          go_upto_block 3 with (fail)
          go_cut [35] (fun a35 wd => a35 = .int .i64 i ∧ ∃ (g cap : Nat) (z : M), Hid (z.plain = (M.mk yk yf yn ys yla ylc yl yka ykc yks).plain) ∧ Hid (QxIs wo wd (N0 + 1 + 1) (N0 + 1 + 1 + 1) k f n s ra j rc (i + 1) (some ⟨g, 0, none⟩) cap (ps ++ [(key, z)]) [M.mk 4 f n s ra rc xs none 0 []]))
          case first =>
            go_wp2_with fail
            refine regionOfK (c := ⟨wo, N0 + 1 + 1, N0 + 1 + 1 + 1, wr.heap.size, k, f, n, s, ra, j, rc, key, yk, yf, yn, ys, yla, yln, ylc, yka, ykn, ykc, M.mk yk yf yn ys yla ylc yl yka ykc yks, pa, i, pc, ps, [M.mk 4 f n s ra rc xs none 0 []]⟩) _ rfl rfl rfl ⟨HQ.out.move ((Fresh.refl wr).alloc _), at_new wr _⟩ HYV.out (HYA.out.move (HWW.out.trans (HQ.out.fresh.trans ((Fresh.refl wr).alloc _)))) HYI.out (by show i ≤ 1000000; omega) (fun _ _ _ _ _ h => h) ?_
            intro z zk zf zn zs zla zlc zl zka zkc zks k1 g cap u' ez hz hLn
            have HZ := Lib.hid hz
            have HLn := Lib.hid hLn
            clear ez hz hLn
            simp only [Qx.loaded, Qx.cs, Act.put, List.setIfInBounds_toArray, List.set_cons_zero, List.set_cons_succ]
            go_wp2
            go_meet
            case rel => exact ⟨rfl, _, _, z, HZ.out, HLn.out⟩
          case rest =>
            obtain ⟨rfl, g, cap, z, HZ, HLn⟩ := hcut
            have HX3 : Hid ((ps ++ [(key, z)]).map (fun p => (p.1, p.2.plain)) = (ks.take (i + 1)).map fun p => (p.1, p.2.plain)) := by
              rw [Hid, HTX.out, List.map_append, List.map_append, HP.out, List.map_singleton, List.map_singleton, HZ.out]
            go_wp2
            go_roundw
            case rel => exact ⟨i + 1, _, _, _, by omega, by go_num, HX3.out, HLn.out⟩
            case measure => simp [intOf]; omega
        · obtain rfl : i = kn := by omega
          have HP2 : Hid (ps.map (fun p => (p.1, p.2.plain)) = ks.map fun p => (p.1, p.2.plain)) := by
            have := HP.out
            rw [List.take_of_length_le (by rw [HLK.out.2]; exact Nat.le_refl _)] at this
            exact this
          have HPL : Hid (ps.length = i) := by
            have := congrArg List.length HP2.out
            rw [List.length_map, List.length_map, HLK.out.2] at this
            exact this
          have hbx := HQ.out.bx
          obtain ⟨q0, q1, q2, q3, q4, q5⟩ := box6' hbx
          have hb2 := HQ.out.fresh.at HB2.out
          obtain ⟨r0, r1, r2, r3, r4, r5⟩ := box6' hb2
          obtain ⟨z0, z1, z2, z3, z4, z5⟩ : wr.frozen? ⟨N0 + 1, 0, none⟩ = false ∧ wr.frozen? ⟨N0 + 1, 1, none⟩ = false ∧ wr.frozen? ⟨N0 + 1, 2, none⟩ = false ∧ wr.frozen? ⟨N0 + 1, 3, none⟩ = false ∧ wr.frozen? ⟨N0 + 1, 4, none⟩ = false ∧ wr.frozen? ⟨N0 + 1, 5, none⟩ = false := by simp [World.frozen?, hb2]
          clear hbx
          have HBW := Lib.hid hb2
          clear hb2
          go_wp2
          have hfin : ((((((wr.setCell ⟨N0 + 1, 0, none⟩ (.int .i64 k)).setCell ⟨N0 + 1, 1, none⟩ (.bool f)).setCell ⟨N0 + 1, 2, none⟩ (.int .i64 n)).setCell ⟨N0 + 1, 3, none⟩ (.string s)).setCell ⟨N0 + 1, 4, none⟩ (.slice ra j rc)).setCell ⟨N0 + 1, 5, none⟩ (.slice pa i pc)).heap[N0 + 1]? = some (.cells #[.int .i64 k, .bool f, .int .i64 n, .string s, .slice ra j rc, .slice pa i pc] 36 (0, 0)) := by
            simp [World.setCell, Array.getElem?_modify, HBW.out]
          have HNW : (M.mk k f n s ra rc xs pa pc ps).New (N0 + 1 + 1 + 1) wr := by
            obtain ⟨_, n1, _, _, _, _, n2, _⟩ := ((HQ.out.ox _ (List.mem_singleton.2 rfl)).new (N := N0 + 1 + 1 + 1) (Nat.le_refl _)).parts
            exact .mk HAT.out.1 n1 (row_new (RowAt.owns HQ.out.rx) (fun ad e => (own_type HQ.out.rx ad e).1)) (by rw [HXL.out]; omega) (by rw [HPL.out]; omega) (of_maps HP2.out HAT.out.2.2.2.2.2.1) n2 (fun x hx => (HQ.out.ax x hx).new (Nat.le_refl _))
          have HNF : Hid ((M.mk k f n s ra rc xs pa pc ps).New w.heap.size ((((((wr.setCell ⟨N0 + 1, 0, none⟩ (.int .i64 k)).setCell ⟨N0 + 1, 1, none⟩ (.bool f)).setCell ⟨N0 + 1, 2, none⟩ (.int .i64 n)).setCell ⟨N0 + 1, 3, none⟩ (.string s)).setCell ⟨N0 + 1, 4, none⟩ (.slice ra j rc)).setCell ⟨N0 + 1, 5, none⟩ (.slice pa i pc))) := by
            refine M.New.mono (N := N0 + 1 + 1 + 1) ?_ (by have := HN0.out; omega)
            exact ((((((HNW.set (by omega)).set (by omega)).set (by omega)).set (by omega)).set (by omega)).set (by omega))
          have HFR : Hid (Fresh w ((((((wr.setCell ⟨N0 + 1, 0, none⟩ (.int .i64 k)).setCell ⟨N0 + 1, 1, none⟩ (.bool f)).setCell ⟨N0 + 1, 2, none⟩ (.int .i64 n)).setCell ⟨N0 + 1, 3, none⟩ (.string s)).setCell ⟨N0 + 1, 4, none⟩ (.slice ra j rc)).setCell ⟨N0 + 1, 5, none⟩ (.slice pa i pc))) := by
            have h0 : Fresh w wr := HWW.out.trans HQ.out.fresh
            have hb : w.heap.size ≤ N0 + 1 := by have := HN0.out; omega
            exact ((((((h0.setCell hb _).setCell hb _).setCell hb _).setCell hb _).setCell hb _).setCell hb _)
          have HPLN : Hid ((M.mk k f n s ra rc xs pa pc ps).plain = V.mk k f n s (l.map M.plain) (ks.map fun p => (p.1, p.2.plain))) := by
            rw [Hid]; simp only [M.plain, plainL_eq, plainK_eq, HX2.out, HP2.out]
          have HVL : Hid ((M.mk k f n s ra rc xs pa pc ps).val = .agg #[.int .i64 k, .bool f, .int .i64 n, .string s, .slice ra j rc, .slice pa i pc]) := by
            rw [Hid, M.val, HXL.out, HPL.out]
          (try simp only [Exit.inBlock, Exit.then])
          refine bodyPost_ret (results_cell_row (p := 2) (ty := 36) rfl _ _ (N0 + 1) 36 #[.int .i64 k, .bool f, .int .i64 n, .string s, .slice ra j rc, .slice pa i pc] (0, 0) _ rfl hfin Tryz.underlying36 rfl size33) rfl ?_
          refine ⟨⟨M.mk k f n s ra rc xs pa pc ps, ?_, HNF.out, HPLN.out⟩, HFR.out⟩
          exact congrArg Ending.returned HVL.out.symm
theorem size_list {m x : M} (h : x ∈ m.list ∨ ∃ key, (key, x) ∈ m.keys) : x.plain.size < m.plain.size := by
  obtain ⟨k, f, n, s, la, lc, l, ka, kc, ks⟩ := m
  simp only [M.plain, V.size, plainL_eq, plainK_eq]
  rcases h with h | ⟨key, h⟩
  · have : x.plain.size ≤ sizeL (l.map M.plain) := size_mem (List.mem_map_of_mem (f := M.plain) h)
    omega
  · have : x.plain.size ≤ sizeK (ks.map fun p => (p.1, p.2.plain)) := by
      rw [sizeK_eq, List.map_map]
      exact size_mem (List.mem_map.2 ⟨(key, x), h, rfl⟩)
    omega
theorem of_all (N : Nat) : ∀ m : M, m.plain.size ≤ N → OfSays m := by
  induction N with
  | zero => intro m hN; have := m.plain.size_pos; omega
  | succ N ih =>
    intro m hN w hat
    exact of_step m w hat fun x hx => ih x (by have := size_list hx; omega)
theorem ofM_any (m : M) : OfSays m := of_all m.plain.size m (Nat.le_refl _)
end v
namespace v
open Go.ChangeShapes Go.WideShapes Go.ChangeAt Go.RowKit
variable {w : World}
def IndexIs (p : M → Bool) (l : List M) (w : World) (e : Ending) (w' : World) : Prop := ∃ i : Int, e = .returned (.int .i64 i) ∧ (0 ≤ i ∧ l.any p = true ∨ i = -1 ∧ l.any p = false) ∧ Fresh w w'
theorem index_any (p : M → Bool) (ptr : Value) (l : List M) (la : Option Addr) (lc : Nat) (w : World) (hl : RowAt w la (mcells l)) (ll : l.length ≤ 1000000)
    (hp : ∀ x ∈ l, ∀ W, Fresh w W → Calls Tryz.prog 94 #[x.val, ptr] W fun e w' => e = .returned (.bool (p x)) ∧ Fresh W w') :
    Calls Tryz.prog 121 #[.slice la l.length lc, .func (.func 94) #[] #[ptr]] w (IndexIs p l w) := by
  have HR := Lib.hid hl
  have HP := Lib.hid hp
  clear hl hp
  go_enter Tryz.func121, Tryz.ntmps121
  go_wp2
  go_loopw [8] (fun a8 wr => ∃ j : Nat, j ≤ l.length ∧ a8 = .int .i64 j ∧ Hid ((l.take j).any p = false) ∧ Hid (Fresh w wr)) (fun a8 _ => l.length - (intOf a8).toNat)
  case atStart => exact ⟨0, Nat.zero_le _, rfl, rfl, Fresh.refl w⟩
  case round =>
    obtain ⟨j, hj, rfl, HA, HW⟩ := hrel
    by_cases hlt : j < l.length
    · obtain ⟨g, eg⟩ := row_some HR.out j hlt
      subst eg
      have hy := mrow_get (HR.out.move HW.out) j hlt
      have HT : Hid (l.take (j + 1) = l.take j ++ [l[j]]) := List.take_succ_eq_append_getElem hlt
      have HM : Hid (l[j] ∈ l) := List.getElem_mem _
      have HQ : Hid (Calls Tryz.prog 94 #[l[j].val, ptr] wr fun e w' => e = .returned (.bool (p l[j])) ∧ Fresh wr w') := HP.out _ (List.getElem_mem _) wr HW.out
      generalize l[j] = y at *
      have HB : Hid (p y = true → l.any p = true) := fun h => List.any_eq_true.2 ⟨y, HM.out, h⟩
      have HC : Hid (p y = false → (l.take (j + 1)).any p = false) := fun h => by
        rw [HT.out, List.any_append, HA.out]; simp [h]
      generalize p y = b at *
      obtain ⟨yk, yf, yn, ys, yla, ylc, yl, yka, ykc, yks⟩ := y
      obtain ⟨d0, d1, d2, d3, d4, d5⟩ := hy
      dsimp only [M.val] at HQ
      generalize yl.length = yln at *
      generalize yks.length = ykn at *
      cases b with
      | true =>
        go_wp2_with fail
        refine HQ.out.mono ?_
        rintro e w1 ⟨rfl, hf⟩
        have HF := Lib.hid (HW.out.trans hf)
        clear hf
        go_wp2
        go_ret
        exact ⟨j, rfl, .inl ⟨Int.natCast_nonneg j, HB.out (by trivial)⟩, HF.out⟩
      | false =>
        go_wp2_with fail
        refine HQ.out.mono ?_
        rintro e w1 ⟨rfl, hf⟩
        have HF := Lib.hid (HW.out.trans hf)
        clear hf
        go_wp2
        go_roundw
        case rel => exact ⟨j + 1, by omega, by go_num, HC.out (by trivial), HF.out⟩
        case measure => simp [intOf]; omega
    · obtain rfl : j = l.length := by omega
      have HE : Hid (l.any p = false) := by have := HA.out; rw [List.take_length] at this; exact this
      go_wp2
      go_ret
      exact ⟨-1, rfl, .inr ⟨rfl, HE.out⟩, HW.out⟩
theorem contains_any (p : M → Bool) (ptr : Value) (l : List M) (la : Option Addr) (lc : Nat) (w : World) (hl : RowAt w la (mcells l)) (ll : l.length ≤ 1000000)
    (hp : ∀ x ∈ l, ∀ W, Fresh w W → Calls Tryz.prog 94 #[x.val, ptr] W fun e w' => e = .returned (.bool (p x)) ∧ Fresh W w') :
    Calls Tryz.prog 93 #[.slice la l.length lc, .func (.func 94) #[] #[ptr]] w fun e w' => e = .returned (.bool (l.any p)) ∧ Fresh w w' := by
  have HQ := Lib.hid (index_any p ptr l la lc w hl ll hp)
  clear hl hp ll
  generalize hln : l.length = ln at *
  clear hln
  unfold IndexIs at HQ
  generalize l.any p = b at *
  go_enter Tryz.func93, Tryz.ntmps93
  go_wp2_with fail
  refine HQ.out.mono ?_
  rintro e w1 ⟨i, rfl, ⟨h0, rfl⟩ | ⟨rfl, rfl⟩, hf⟩
  · go_wp2
    go_ret
    exact ⟨rfl, hf⟩
  · go_wp2
    go_ret
    exact ⟨rfl, hf⟩
theorem closure_any (m : M) (b n : Nat) (bl : Bool) (w : World) (hn : n ≤ 1000) (hb : w.cell? ⟨b, 0, none⟩ = some (.int .i64 ((n + 1 : Nat) : Int)))
    (hq : ∀ W, Fresh w W → Calls Tryz.prog 68 #[m.val, .int .i64 n] W fun e w' => e = .returned (.bool bl) ∧ Fresh W w') :
    Calls Tryz.prog 94 #[m.val, .pointer (some ⟨b, 0, none⟩)] w fun e w' => e = .returned (.bool bl) ∧ Fresh w w' := by
  have HQ := Lib.hid hq
  have hbl := World.block_lt_of_cell? w _ hb
  dsimp only at hbl
  clear hq
  obtain ⟨k, f, nn, s, la, lc, l, ka, kc, ks⟩ := m
  dsimp only [M.val] at *
  generalize l.length = ln at *
  generalize ks.length = kn at *
  go_enter Tryz.func94, Tryz.ntmps94
  go_wp2_with fail
  refine (HQ.out _ ((Fresh.refl w).alloc _)).mono ?_
  rintro e w1 ⟨rfl, hf⟩
  go_wp2
  go_ret
  exact ⟨rfl, ((Fresh.refl w).alloc _).trans hf⟩
theorem deeper_not (m : M) (n : Int) (w : World) (hh : m.plain.holds = false) : Calls Tryz.prog 68 #[m.val, .int .i64 n] w fun e w' => e = .returned (.bool false) ∧ Fresh w w' := by
  have HQ : Hid (∀ W, Calls Tryz.prog 41 #[m.val] W fun e w' => e = .returned (.bool false) ∧ Fresh W w') := fun W => by rw [← hh]; exact holds_any m W
  clear hh
  obtain ⟨k, f, nn, s, la, lc, l, ka, kc, ks⟩ := m
  dsimp only [M.val] at *
  generalize l.length = ln at *
  generalize ks.length = kn at *
  go_enter Tryz.func68, Tryz.ntmps68
  go_wp2_with fail
  refine (HQ.out _).mono ?_
  rintro e w1 ⟨rfl, hf⟩
  go_wp2
  go_ret
  exact ⟨rfl, (((Fresh.refl w).alloc _).alloc _).trans hf⟩
theorem deeper_zero (m : M) (w : World) (hh : m.plain.holds = true) : Calls Tryz.prog 68 #[m.val, .int .i64 0] w fun e w' => e = .returned (.bool true) ∧ Fresh w w' := by
  have HQ : Hid (∀ W, Calls Tryz.prog 41 #[m.val] W fun e w' => e = .returned (.bool true) ∧ Fresh W w') := fun W => by rw [← hh]; exact holds_any m W
  clear hh
  obtain ⟨k, f, nn, s, la, lc, l, ka, kc, ks⟩ := m
  dsimp only [M.val] at *
  generalize l.length = ln at *
  generalize ks.length = kn at *
  go_enter Tryz.func68, Tryz.ntmps68
  go_wp2_with fail
  refine (HQ.out _).mono ?_
  rintro e w1 ⟨rfl, hf⟩
  have hc : w1.cell? ⟨w.heap.size + 1, 0, none⟩ = some (.int .i64 0) := hf.cell (cell_of_at (by have := at_new (w.alloc (.cells #[.int .i64 k, .bool f, .int .i64 nn, .string s, .slice la ln lc, .slice ka kn kc] 27)) (.cells #[.int .i64 0] 3); rw [World.size_alloc] at this; exact this) rfl)
  go_wp2
  go_ret
  exact ⟨rfl, (((Fresh.refl w).alloc _).alloc _).trans hf⟩
theorem deeper_succ (m : M) (n : Nat) (w : World) (hat : m.At w) (hn : n ≤ 1000) (hh : m.plain.holds = true)
    (ih : ∀ x ∈ m.inside, ∀ W, Fresh w W → Calls Tryz.prog 68 #[x.val, .int .i64 n] W fun e w' => e = .returned (.bool (decide (n < x.plain.depth))) ∧ Fresh W w') :
    Calls Tryz.prog 68 #[m.val, .int .i64 ((n + 1 : Nat) : Int)] w fun e w' => e = .returned (.bool (m.inside.any fun x => decide (n < x.plain.depth))) ∧ Fresh w w' := by
  have HQ : Hid (∀ W, Calls Tryz.prog 41 #[m.val] W fun e w' => e = .returned (.bool true) ∧ Fresh W w') := fun W => by rw [← hh]; exact holds_any m W
  have HI : Hid (∀ W, Fresh w W → Calls Tryz.prog 39 #[m.val] W (InsideIs m W)) := fun W hf => inside_any m W (hat.move hf)
  have HC : Hid (∀ (W : World) (a : Option Addr) (c b : Nat), Fresh w W → RowAt W a (mcells m.inside) → W.cell? ⟨b, 0, none⟩ = some (.int .i64 ((n + 1 : Nat) : Int)) → Calls Tryz.prog 93 #[.slice a m.inside.length c, .func (.func 94) #[] #[.pointer (some ⟨b, 0, none⟩)]] W fun e w' => e = .returned (.bool (m.inside.any fun x => decide (n < x.plain.depth))) ∧ Fresh W w') :=
    fun W a c b hf hr hb => contains_any _ _ _ a c W hr hat.len (fun x hx W' hf' => closure_any x b n _ W' hn (hf'.cell hb) (fun W2 h2 => ih x hx W2 ((hf.trans hf').trans h2)))
  clear hh hat ih
  generalize (m.inside.any fun x => decide (n < x.plain.depth)) = bb at *
  unfold InsideIs at HI
  generalize m.inside = ins at *
  obtain ⟨k, f, nn, s, la, lc, l, ka, kc, ks⟩ := m
  dsimp only [M.val] at *
  generalize l.length = ln at *
  generalize ks.length = kn at *
  go_enter Tryz.func68, Tryz.ntmps68
  go_wp2_with fail
  refine (HQ.out _).mono ?_
  rintro e w1 ⟨rfl, hf⟩
  have hc : w1.cell? ⟨w.heap.size + 1, 0, none⟩ = some (.int .i64 ((n + 1 : Nat) : Int)) := hf.cell (cell_of_at (by have := at_new (w.alloc (.cells #[.int .i64 k, .bool f, .int .i64 nn, .string s, .slice la ln lc, .slice ka kn kc] 27)) (.cells #[.int .i64 ((n + 1 : Nat) : Int)] 3); rw [World.size_alloc] at this; exact this) rfl)
  have hbx : w1.heap[w.heap.size]? = some (.cells #[.int .i64 k, .bool f, .int .i64 nn, .string s, .slice la ln lc, .slice ka kn kc] 27) := hf.at (at_alloc (at_new w _))
  obtain ⟨b0, b1, b2, b3, b4, b5⟩ := box6' hbx
  have HF1 := Lib.hid ((((Fresh.refl w).alloc _).alloc _).trans hf)
  clear hf hbx
  go_wp2_with fail
  refine (HI.out _ HF1.out).mono ?_
  rintro e w2 ⟨a, c, rfl, hr, hf2, _⟩
  have HF2 := Lib.hid (HF1.out.trans hf2)
  have HC2 := Lib.hid (HC.out w2 a c (w.heap.size + 1) HF2.out hr (hf2.cell hc))
  clear hr hf2 hc b0 b1 b2 b3 b4 b5
  go_wp2_with fail
  refine HC2.out.mono ?_
  rintro e w3 ⟨rfl, hf3⟩
  go_wp2
  go_ret
  exact ⟨rfl, HF2.out.trans hf3⟩
theorem deeper_any (n : Nat) : ∀ (m : M) (w : World), n ≤ 1000 → m.At w → Calls Tryz.prog 68 #[m.val, .int .i64 n] w fun e w' => e = .returned (.bool (decide (n < m.plain.depth))) ∧ Fresh w w' := by
  induction n with
  | zero =>
    intro m w _ hat
    cases hh : m.plain.holds with
    | false => rw [m.plain.depth_not hh]; exact deeper_not m _ w hh
    | true =>
      rw [m.plain.depth_holds hh, decide_eq_true (by omega)]
      exact deeper_zero m w hh
  | succ n ih =>
    intro m w hn hat
    cases hh : m.plain.holds with
    | false => rw [m.plain.depth_not hh]; exact deeper_not m _ w hh
    | true =>
      have e : decide (n + 1 < m.plain.depth) = (m.inside.any fun x => decide (n < x.plain.depth)) := by
        rw [m.plain.depth_holds hh, Bool.eq_iff_iff, decide_eq_true_iff, List.any_eq_true, plain_inside]
        constructor
        · intro h
          obtain ⟨v, hv, hd⟩ := (depthL_lt _ n).1 (show n < depthL (m.inside.map M.plain) by omega)
          obtain ⟨x, hx, rfl⟩ := List.mem_map.1 hv
          exact ⟨x, hx, decide_eq_true hd⟩
        · rintro ⟨x, hx, hd⟩
          have := (depthL_lt (m.inside.map M.plain) n).2 ⟨_, List.mem_map_of_mem (f := M.plain) hx, of_decide_eq_true hd⟩
          omega
      rw [e]
      exact deeper_succ m n w hat (by omega) hh (fun x hx W hf => ih x W (by omega) ((hat.inside x hx).move hf))
end v
end Go.Proofs.YtcljplkkgpjhlaaGreatDoorR
