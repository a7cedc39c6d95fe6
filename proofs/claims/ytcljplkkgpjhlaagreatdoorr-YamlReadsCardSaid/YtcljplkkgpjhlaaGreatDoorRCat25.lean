/-
  Parts of the proof: YRBlk0 YMap YSeg YLocal YPrefix YPos VUtf.
-/
import Derived.Test.YtcljplkkgpjhlaaGreatDoorRCat19
import Derived.Test.YtcljplkkgpjhlaaGreatDoorRCat24
import Derived.Test.YtcljplkkgpjhlaaGreatDoorRCat22
import Derived.Test.YtcljplkkgpjhlaaGreatDoorRCat09
import Derived.Test.YtcljplkkgpjhlaaGreatDoorRCat10
import Derived.Test.YtcljplkkgpjhlaaGreatDoorRCat08
import Derived.Test.YtcljplkkgpjhlaaGreatDoorRCat20
import Derived.Test.YtcljplkkgpjhlaaGreatDoorRCat05
set_option maxRecDepth 100000
set_option maxHeartbeats 8000000
namespace Go.Proofs.YtcljplkkgpjhlaaGreatDoorR
namespace y
open Go.ChangeShapes Go.WideShapes Go.ChangeAt Go.RowKit
attribute [local go_sem ↓] Go.wp_at_zero Go.wp_at_succ
variable {w : World}
structure RowC (w : World) (g i : Nat) (r : Rw) : Prop where
  c0 : w.cell? ⟨g, i * 4, none⟩ = some (.int .i64 (r.line : Int))
  c1 : w.cell? ⟨g, i * 4 + 1, none⟩ = some (.int .i64 (r.indent : Int))
  c2 : w.cell? ⟨g, i * 4 + 2, none⟩ = some (.bool r.dash)
  c3 : w.cell? ⟨g, i * 4 + 3, none⟩ = some (.string (tx r.text))
theorem RowC.move {w w' : World} {g i : Nat} {r : Rw} (h : RowC w g i r) (f : Fresh w w') : RowC w' g i r :=
  have k : ∀ {o : Nat} {u : Value}, w.cell? ⟨g, o, none⟩ = some u → w'.cell? ⟨g, o, none⟩ = some u := fun e => (Wr.of_fresh (p := fun _ => False) f).cell id e
  ⟨k h.c0, k h.c1, k h.c2, k h.c3⟩
theorem row_at {w : World} {a : Option Addr} {c : Nat} {R : List Rw} (h : RowsAt0 w a c R) (i : Nat) (hi : i < R.length) : ∃ g, a = some ⟨g, 0, none⟩ ∧ g < w.heap.size ∧ RowC w g i R[i] := by
  obtain ⟨g, e, hg, hr⟩ := h.row.resolve_left (fun e => by subst e; simp at hi)
  have k : ∀ j u, (rcell R[i])[j]? = some u → w.cell? ⟨g, i * 4 + j, none⟩ = some u := fun j u hu => by
    have := hr i hi j u hu
    rwa [show 0 + 4 * i + j = i * 4 + j by omega] at this
  exact ⟨g, e, hg, ⟨k 0 _ rfl, k 1 _ rfl, k 2 _ rfl, k 3 _ rfl⟩⟩
abbrev rblk (x : Int × Bool × Int × ByteArray) (p c : Int) : Ending := .returned (.tuple #[.agg #[.int .i64 x.1, .bool x.2.1, .int .i64 x.2.2.1, .string x.2.2.2, .slice none 0 0, .slice none 0 0], .int .i64 p, .int .i64 c])
theorem rblk_none (a : Option Addr) (n c : Nat) (at0 : Nat) (ins : Int) (w : World) :
    Calls Tryz.prog 28 #[.slice a n c, .int .i64 (at0 : Int), .int .i64 (at0 : Int), .int .i64 ins] w fun e w' => e = rblk (0, false, 0, ⟨#[]⟩) 0 0 ∧ Fresh w w' := by
  go_enter Tryz.func28, Tryz.ntmps28
  go_wp2
  exact bodyPost_ret (v := .tuple #[.agg #[.int .i64 0, .bool false, .int .i64 0, .string ⟨#[]⟩, .slice none 0 0, .slice none 0 0], .int .i64 0, .int .i64 0]) (by simp [results, Tryz.results28, go_sem]) rfl ⟨rfl, (Fresh.refl w).alloc _⟩
theorem rblk_deep (g n c : Nat) (at0 e0 : Nat) (r : Rw) (ins : Int) (w : World) (hr : RowC w g at0 r) (h1 : at0 < e0) (h2 : e0 ≤ n) (hd : r.dash = true) (hi : 32 ≤ ins) :
    Calls Tryz.prog 28 #[.slice (some ⟨g, 0, none⟩) n c, .int .i64 (at0 : Int), .int .i64 (e0 : Int), .int .i64 ins] w fun e w' => e = rblk (0, false, 0, ⟨#[]⟩) at0 9 ∧ Fresh w w' := by
  have q1 : ((at0 : Int) == (e0 : Int)) = false := beq_eq_false_iff_ne.2 (by omega)
  have q2 : (0 : Int) ≤ (at0 : Int) ∧ (at0 : Int) < (n : Int) := ⟨by omega, by omega⟩
  obtain ⟨d0, d1, d2, d3⟩ := hr.move ((Fresh.refl w).alloc (.cells zcells 36 (0, 0)))
  rw [hd] at d2
  have HB := v.at_new w (.cells zcells 36 (0, 0))
  have HF0 := Lib.hid ((Fresh.refl w).alloc (.cells zcells 36 (0, 0)))
  clear hr
  go_enter Tryz.func28, Tryz.ntmps28
  go_upto_region 1 with (fail)
  generalize hw0 : w.alloc (.cells zcells 36 (0, 0)) = w0 at *
  generalize hsz : w.heap.size = sz at *
  obtain ⟨c0, c1, c2, c3, c4, c5, f, lt⟩ := (show RBox w0 sz from HB).facts
  have f0 := f 0; have f1 := f 1; have f2 := f 2; have f3 := f 3; have f4 := f 4; have f5 := f 5
  clear f HB hw0
  go_wp2
  refine bodyPost_ret (v := .tuple #[.agg #[.int .i64 0, .bool false, .int .i64 0, .string ⟨#[]⟩, .slice none 0 0, .slice none 0 0], .int .i64 (at0 : Int), .int .i64 9]) (by simp [results, Tryz.results28, go_sem, *]) rfl ⟨rfl, ?_⟩
  exact Wr.toFresh (p := fun k => w.heap.size ≤ k) ((Wr.of_fresh HF0.out).set6 (.inl (Nat.le_of_eq hsz)) _ _ _ _ _ _) (fun k hk h => by omega)
theorem rblk_split (g n c : Nat) (at0 e0 : Nat) (r : Rw) (ins : Int) (w : World) (hr : RowC w g at0 r) (h1 : at0 < e0) (h2 : e0 ≤ n) (hn : n ≤ 1000000) (hd : r.dash = false) (p x : Int)
    (hS : ∀ W : World, Fresh w W → Calls Tryz.prog 58 #[.string (tx r.text)] W fun e w' => e = .returned (.tuple #[.int .i64 p, .int .i64 x]) ∧ Fresh W w') (hx : x ≠ 0) :
    Calls Tryz.prog 28 #[.slice (some ⟨g, 0, none⟩) n c, .int .i64 (at0 : Int), .int .i64 (e0 : Int), .int .i64 ins] w fun e w' => e = rblk (0, false, 0, ⟨#[]⟩) (at0) (x) ∧ Fresh w w' := by
  have q1 : ((at0 : Int) == (e0 : Int)) = false := beq_eq_false_iff_ne.2 (by omega)
  have q2 : (0 : Int) ≤ (at0 : Int) ∧ (at0 : Int) < (n : Int) := ⟨by omega, by omega⟩
  have hw1 : IntKind.i64.wrap ((at0 : Int) + 1) = (at0 : Int) + 1 := IntWalk.i64_in _ (by omega)
  have gx : (x != 0) = true := by simpa using hx
  have HS := Lib.hid hS
  have HRC := Lib.hid (hr.move ((Fresh.refl w).alloc (.cells zcells 36 (0, 0))))
  obtain ⟨d0, d1, d2, d3⟩ := HRC.out
  rw [hd] at d2
  have HB := Lib.hid (v.at_new w (.cells zcells 36 (0, 0)))
  have HF0 := Lib.hid ((Fresh.refl w).alloc (.cells zcells 36 (0, 0)))
  clear hr hS
  go_enter Tryz.func28, Tryz.ntmps28
  go_upto_region 1 with (fail)
  generalize hw0 : w.alloc (.cells zcells 36 (0, 0)) = w0 at *
  generalize hsz : w.heap.size = sz at *
  clear hw0
  go_wp2_with fail
  refine (HS.out _ HF0.out).mono ?_
  rintro e w1 ⟨rfl, hf⟩
  have HR1 := Lib.hid (HRC.out.move hf)
  have HB1 := Lib.hid (v.Fresh.at hf HB.out)
  have HF1 := Lib.hid (HF0.out.trans hf)
  clear hf d0 d1 d2 d3
  obtain ⟨c0, c1, c2, c3, c4, c5, f, lt⟩ := (show RBox w1 sz from HB1.out).facts
  have f0 := f 0; have f1 := f 1; have f2 := f 2; have f3 := f 3; have f4 := f 4; have f5 := f 5
  clear f
  go_wp2
  refine bodyPost_ret (v := .tuple #[.agg #[.int .i64 0, .bool false, .int .i64 0, .string ⟨#[]⟩, .slice none 0 0, .slice none 0 0], .int .i64 (at0), .int .i64 (x)]) (by simp [results, Tryz.results28, go_sem, *]) rfl ⟨rfl, ?_⟩
  exact Wr.toFresh (p := fun k => w.heap.size ≤ k) ((Wr.of_fresh HF1.out).set6 (.inl (Nat.le_of_eq hsz)) _ _ _ _ _ _) (fun k hk h => by omega)
theorem rblk_keys_deep (g n c : Nat) (at0 e0 : Nat) (r : Rw) (ins : Int) (w : World) (hr : RowC w g at0 r) (h1 : at0 < e0) (h2 : e0 ≤ n) (hn : n ≤ 1000000) (hd : r.dash = false) (p x : Int)
    (hS : ∀ W : World, Fresh w W → Calls Tryz.prog 58 #[.string (tx r.text)] W fun e w' => e = .returned (.tuple #[.int .i64 p, .int .i64 x]) ∧ Fresh W w') (hx : x = 0) (hp : 0 ≤ p) (hi : 32 ≤ ins) :
    Calls Tryz.prog 28 #[.slice (some ⟨g, 0, none⟩) n c, .int .i64 (at0 : Int), .int .i64 (e0 : Int), .int .i64 ins] w fun e w' => e = rblk (0, false, 0, ⟨#[]⟩) (at0) (9) ∧ Fresh w w' := by
  have q1 : ((at0 : Int) == (e0 : Int)) = false := beq_eq_false_iff_ne.2 (by omega)
  have q2 : (0 : Int) ≤ (at0 : Int) ∧ (at0 : Int) < (n : Int) := ⟨by omega, by omega⟩
  have hw1 : IntKind.i64.wrap ((at0 : Int) + 1) = (at0 : Int) + 1 := IntWalk.i64_in _ (by omega)
  subst hx
  have HS := Lib.hid hS
  have HRC := Lib.hid (hr.move ((Fresh.refl w).alloc (.cells zcells 36 (0, 0))))
  obtain ⟨d0, d1, d2, d3⟩ := HRC.out
  rw [hd] at d2
  have HB := Lib.hid (v.at_new w (.cells zcells 36 (0, 0)))
  have HF0 := Lib.hid ((Fresh.refl w).alloc (.cells zcells 36 (0, 0)))
  clear hr hS
  go_enter Tryz.func28, Tryz.ntmps28
  go_upto_region 1 with (fail)
  generalize hw0 : w.alloc (.cells zcells 36 (0, 0)) = w0 at *
  generalize hsz : w.heap.size = sz at *
  clear hw0
  go_wp2_with fail
  refine (HS.out _ HF0.out).mono ?_
  rintro e w1 ⟨rfl, hf⟩
  have HR1 := Lib.hid (HRC.out.move hf)
  have HB1 := Lib.hid (v.Fresh.at hf HB.out)
  have HF1 := Lib.hid (HF0.out.trans hf)
  clear hf d0 d1 d2 d3
  obtain ⟨c0, c1, c2, c3, c4, c5, f, lt⟩ := (show RBox w1 sz from HB1.out).facts
  have f0 := f 0; have f1 := f 1; have f2 := f 2; have f3 := f 3; have f4 := f 4; have f5 := f 5
  clear f
  go_wp2
  refine bodyPost_ret (v := .tuple #[.agg #[.int .i64 0, .bool false, .int .i64 0, .string ⟨#[]⟩, .slice none 0 0, .slice none 0 0], .int .i64 (at0), .int .i64 (9)]) (by simp [results, Tryz.results28, go_sem, *]) rfl ⟨rfl, ?_⟩
  exact Wr.toFresh (p := fun k => w.heap.size ≤ k) ((Wr.of_fresh HF1.out).set6 (.inl (Nat.le_of_eq hsz)) _ _ _ _ _ _) (fun k hk h => by omega)
theorem rblk_scal_bad (g n c : Nat) (at0 e0 : Nat) (r : Rw) (ins : Int) (w : World) (hr : RowC w g at0 r) (h1 : at0 < e0) (h2 : e0 ≤ n) (hn : n ≤ 1000000) (hd : r.dash = false) (p x : Int)
    (hS : ∀ W : World, Fresh w W → Calls Tryz.prog 58 #[.string (tx r.text)] W fun e w' => e = .returned (.tuple #[.int .i64 p, .int .i64 x]) ∧ Fresh W w') (hx : x = 0) (hp : ¬ 0 ≤ p) (sk : Int) (sf : Bool) (sn : Int) (st : ByteArray) (sx : Int) (hC : ∀ W : World, Fresh w W → Calls Tryz.prog 59 #[.string (tx r.text), .int .i64 ins] W fun e w' => e = .returned (.tuple #[.agg #[.int .i64 sk, .bool sf, .int .i64 sn, .string st, .slice none 0 0, .slice none 0 0], .int .i64 sx]) ∧ Fresh W w') (hs : sx ≠ 0) :
    Calls Tryz.prog 28 #[.slice (some ⟨g, 0, none⟩) n c, .int .i64 (at0 : Int), .int .i64 (e0 : Int), .int .i64 ins] w fun e w' => e = rblk (0, false, 0, ⟨#[]⟩) (at0) (sx) ∧ Fresh w w' := by
  have q1 : ((at0 : Int) == (e0 : Int)) = false := beq_eq_false_iff_ne.2 (by omega)
  have q2 : (0 : Int) ≤ (at0 : Int) ∧ (at0 : Int) < (n : Int) := ⟨by omega, by omega⟩
  have hw1 : IntKind.i64.wrap ((at0 : Int) + 1) = (at0 : Int) + 1 := IntWalk.i64_in _ (by omega)
  subst hx
  have HC := Lib.hid hC
  clear hC
  have gs : (sx != 0) = true := by simpa using hs
  have HS := Lib.hid hS
  have HRC := Lib.hid (hr.move ((Fresh.refl w).alloc (.cells zcells 36 (0, 0))))
  obtain ⟨d0, d1, d2, d3⟩ := HRC.out
  rw [hd] at d2
  have HB := Lib.hid (v.at_new w (.cells zcells 36 (0, 0)))
  have HF0 := Lib.hid ((Fresh.refl w).alloc (.cells zcells 36 (0, 0)))
  clear hr hS
  go_enter Tryz.func28, Tryz.ntmps28
  go_upto_region 1 with (fail)
  generalize hw0 : w.alloc (.cells zcells 36 (0, 0)) = w0 at *
  generalize hsz : w.heap.size = sz at *
  clear hw0
  go_wp2_with fail
  refine (HS.out _ HF0.out).mono ?_
  rintro e w1 ⟨rfl, hf⟩
  have HR1 := Lib.hid (HRC.out.move hf)
  have HB1 := Lib.hid (v.Fresh.at hf HB.out)
  have HF1 := Lib.hid (HF0.out.trans hf)
  clear hf d0 d1 d2 d3
  obtain ⟨d0, d1, d2, d3⟩ := HR1.out
  go_wp2_with fail
  refine (HC.out _ HF1.out).mono ?_
  rintro e w2 ⟨rfl, hf⟩
  have HB2 := Lib.hid (v.Fresh.at ((Fresh.refl w2).alloc (.cells #[.int .i64 sk, .bool sf, .int .i64 sn, .string st, .slice none 0 0, .slice none 0 0] 36 (0, 0))) (v.Fresh.at hf HB1.out))
  have HX2 := Lib.hid (v.at_new w2 (.cells #[.int .i64 sk, .bool sf, .int .i64 sn, .string st, .slice none 0 0, .slice none 0 0] 36 (0, 0)))
  have HF2 := Lib.hid ((HF1.out.trans hf).alloc (.cells #[.int .i64 sk, .bool sf, .int .i64 sn, .string st, .slice none 0 0, .slice none 0 0] 36 (0, 0)))
  have HZ2 : Hid (sz ≠ w2.heap.size) := by have := v.lt_of_at (v.Fresh.at hf HB1.out); rw [Hid]; omega
  clear hf d0 d1 d2 d3
  go_upto_region 14 with (fail)
  generalize w2.alloc (.cells #[.int .i64 sk, .bool sf, .int .i64 sn, .string st, .slice none 0 0, .slice none 0 0] 36 (0, 0)) = w3 at *
  generalize w2.heap.size = gx at *
  have x0 : w3.cell? ⟨gx, 0, none⟩ = some (.int .i64 sk) := cell_of_at HX2.out rfl
  have x1 : w3.cell? ⟨gx, 1, none⟩ = some (.bool sf) := cell_of_at HX2.out rfl
  have x2 : w3.cell? ⟨gx, 2, none⟩ = some (.int .i64 sn) := cell_of_at HX2.out rfl
  have x3 : w3.cell? ⟨gx, 3, none⟩ = some (.string st) := cell_of_at HX2.out rfl
  have x4 : w3.cell? ⟨gx, 4, none⟩ = some (.slice none 0 0) := cell_of_at HX2.out rfl
  have x5 : w3.cell? ⟨gx, 5, none⟩ = some (.slice none 0 0) := cell_of_at HX2.out rfl
  obtain ⟨c0, c1, c2, c3, c4, c5, f, lt⟩ := (show RBox w3 sz from HB2.out).facts
  have f0 := f 0; have f1 := f 1; have f2 := f 2; have f3 := f 3; have f4 := f 4; have f5 := f 5
  clear f
  go_wp2
  refine bodyPost_ret (v := .tuple #[.agg #[.int .i64 0, .bool false, .int .i64 0, .string ⟨#[]⟩, .slice none 0 0, .slice none 0 0], .int .i64 (at0), .int .i64 (sx)]) (by simp [results, Tryz.results28, go_sem, *]) rfl ⟨rfl, ?_⟩
  exact Wr.toFresh (p := fun k => w.heap.size ≤ k) ((Wr.of_fresh HF2.out).set6 (.inl (Nat.le_of_eq hsz)) _ _ _ _ _ _) (fun k hk h => by omega)
theorem rblk_scal_more (g n c : Nat) (at0 e0 : Nat) (r : Rw) (ins : Int) (w : World) (hr : RowC w g at0 r) (h2 : e0 ≤ n) (hn : n ≤ 1000000) (hd : r.dash = false) (p x : Int)
    (hS : ∀ W : World, Fresh w W → Calls Tryz.prog 58 #[.string (tx r.text)] W fun e w' => e = .returned (.tuple #[.int .i64 p, .int .i64 x]) ∧ Fresh W w') (hx : x = 0) (hp : ¬ 0 ≤ p) (sk : Int) (sf : Bool) (sn : Int) (st : ByteArray) (sx : Int) (hC : ∀ W : World, Fresh w W → Calls Tryz.prog 59 #[.string (tx r.text), .int .i64 ins] W fun e w' => e = .returned (.tuple #[.agg #[.int .i64 sk, .bool sf, .int .i64 sn, .string st, .slice none 0 0, .slice none 0 0], .int .i64 sx]) ∧ Fresh W w') (hs : sx = 0) (he : at0 + 1 < e0) :
    Calls Tryz.prog 28 #[.slice (some ⟨g, 0, none⟩) n c, .int .i64 (at0 : Int), .int .i64 (e0 : Int), .int .i64 ins] w fun e w' => e = rblk (0, false, 0, ⟨#[]⟩) ((at0 : Int) + 1) (6) ∧ Fresh w w' := by
  have q1 : ((at0 : Int) == (e0 : Int)) = false := beq_eq_false_iff_ne.2 (by omega)
  have q2 : (0 : Int) ≤ (at0 : Int) ∧ (at0 : Int) < (n : Int) := ⟨by omega, by omega⟩
  have hw1 : IntKind.i64.wrap ((at0 : Int) + 1) = (at0 : Int) + 1 := IntWalk.i64_in _ (by omega)
  subst hx
  have HC := Lib.hid hC
  clear hC
  subst hs
  have ge : (at0 : Int) + 1 < (e0 : Int) := by omega
  have HS := Lib.hid hS
  have HRC := Lib.hid (hr.move ((Fresh.refl w).alloc (.cells zcells 36 (0, 0))))
  obtain ⟨d0, d1, d2, d3⟩ := HRC.out
  rw [hd] at d2
  have HB := Lib.hid (v.at_new w (.cells zcells 36 (0, 0)))
  have HF0 := Lib.hid ((Fresh.refl w).alloc (.cells zcells 36 (0, 0)))
  clear hr hS
  go_enter Tryz.func28, Tryz.ntmps28
  go_upto_region 1 with (fail)
  generalize hw0 : w.alloc (.cells zcells 36 (0, 0)) = w0 at *
  generalize hsz : w.heap.size = sz at *
  clear hw0
  go_wp2_with fail
  refine (HS.out _ HF0.out).mono ?_
  rintro e w1 ⟨rfl, hf⟩
  have HR1 := Lib.hid (HRC.out.move hf)
  have HB1 := Lib.hid (v.Fresh.at hf HB.out)
  have HF1 := Lib.hid (HF0.out.trans hf)
  clear hf d0 d1 d2 d3
  obtain ⟨d0, d1, d2, d3⟩ := HR1.out
  go_wp2_with fail
  refine (HC.out _ HF1.out).mono ?_
  rintro e w2 ⟨rfl, hf⟩
  have HB2 := Lib.hid (v.Fresh.at ((Fresh.refl w2).alloc (.cells #[.int .i64 sk, .bool sf, .int .i64 sn, .string st, .slice none 0 0, .slice none 0 0] 36 (0, 0))) (v.Fresh.at hf HB1.out))
  have HX2 := Lib.hid (v.at_new w2 (.cells #[.int .i64 sk, .bool sf, .int .i64 sn, .string st, .slice none 0 0, .slice none 0 0] 36 (0, 0)))
  have HF2 := Lib.hid ((HF1.out.trans hf).alloc (.cells #[.int .i64 sk, .bool sf, .int .i64 sn, .string st, .slice none 0 0, .slice none 0 0] 36 (0, 0)))
  have HZ2 : Hid (sz ≠ w2.heap.size) := by have := v.lt_of_at (v.Fresh.at hf HB1.out); rw [Hid]; omega
  clear hf d0 d1 d2 d3
  go_upto_region 14 with (fail)
  generalize w2.alloc (.cells #[.int .i64 sk, .bool sf, .int .i64 sn, .string st, .slice none 0 0, .slice none 0 0] 36 (0, 0)) = w3 at *
  generalize w2.heap.size = gx at *
  have x0 : w3.cell? ⟨gx, 0, none⟩ = some (.int .i64 sk) := cell_of_at HX2.out rfl
  have x1 : w3.cell? ⟨gx, 1, none⟩ = some (.bool sf) := cell_of_at HX2.out rfl
  have x2 : w3.cell? ⟨gx, 2, none⟩ = some (.int .i64 sn) := cell_of_at HX2.out rfl
  have x3 : w3.cell? ⟨gx, 3, none⟩ = some (.string st) := cell_of_at HX2.out rfl
  have x4 : w3.cell? ⟨gx, 4, none⟩ = some (.slice none 0 0) := cell_of_at HX2.out rfl
  have x5 : w3.cell? ⟨gx, 5, none⟩ = some (.slice none 0 0) := cell_of_at HX2.out rfl
  obtain ⟨c0, c1, c2, c3, c4, c5, f, lt⟩ := (show RBox w3 sz from HB2.out).facts
  have f0 := f 0; have f1 := f 1; have f2 := f 2; have f3 := f 3; have f4 := f 4; have f5 := f 5
  clear f
  go_wp2
  refine bodyPost_ret (v := .tuple #[.agg #[.int .i64 0, .bool false, .int .i64 0, .string ⟨#[]⟩, .slice none 0 0, .slice none 0 0], .int .i64 ((at0 : Int) + 1), .int .i64 (6)]) (by simp [results, Tryz.results28, go_sem, *]) rfl ⟨rfl, ?_⟩
  exact Wr.toFresh (p := fun k => w.heap.size ≤ k) ((Wr.of_fresh HF2.out).set6 (.inl (Nat.le_of_eq hsz)) _ _ _ _ _ _) (fun k hk h => by omega)
theorem rblk_scal (g n c : Nat) (at0 e0 : Nat) (r : Rw) (ins : Int) (w : World) (hr : RowC w g at0 r) (h2 : e0 ≤ n) (hn : n ≤ 1000000) (hd : r.dash = false) (p x : Int)
    (hS : ∀ W : World, Fresh w W → Calls Tryz.prog 58 #[.string (tx r.text)] W fun e w' => e = .returned (.tuple #[.int .i64 p, .int .i64 x]) ∧ Fresh W w') (hx : x = 0) (hp : ¬ 0 ≤ p) (sk : Int) (sf : Bool) (sn : Int) (st : ByteArray) (sx : Int) (hC : ∀ W : World, Fresh w W → Calls Tryz.prog 59 #[.string (tx r.text), .int .i64 ins] W fun e w' => e = .returned (.tuple #[.agg #[.int .i64 sk, .bool sf, .int .i64 sn, .string st, .slice none 0 0, .slice none 0 0], .int .i64 sx]) ∧ Fresh W w') (hs : sx = 0) (he : at0 + 1 = e0) :
    Calls Tryz.prog 28 #[.slice (some ⟨g, 0, none⟩) n c, .int .i64 (at0 : Int), .int .i64 (e0 : Int), .int .i64 ins] w fun e w' => e = rblk (sk, sf, sn, st) (0) (0) ∧ Fresh w w' := by
  have q1 : ((at0 : Int) == (e0 : Int)) = false := beq_eq_false_iff_ne.2 (by omega)
  have q2 : (0 : Int) ≤ (at0 : Int) ∧ (at0 : Int) < (n : Int) := ⟨by omega, by omega⟩
  have hw1 : IntKind.i64.wrap ((at0 : Int) + 1) = (at0 : Int) + 1 := IntWalk.i64_in _ (by omega)
  subst hx
  have HC := Lib.hid hC
  clear hC
  subst hs
  have ge : ¬ (at0 : Int) + 1 < (e0 : Int) := by omega
  have HS := Lib.hid hS
  have HRC := Lib.hid (hr.move ((Fresh.refl w).alloc (.cells zcells 36 (0, 0))))
  obtain ⟨d0, d1, d2, d3⟩ := HRC.out
  rw [hd] at d2
  have HB := Lib.hid (v.at_new w (.cells zcells 36 (0, 0)))
  have HF0 := Lib.hid ((Fresh.refl w).alloc (.cells zcells 36 (0, 0)))
  clear hr hS
  go_enter Tryz.func28, Tryz.ntmps28
  go_upto_region 1 with (fail)
  generalize hw0 : w.alloc (.cells zcells 36 (0, 0)) = w0 at *
  generalize hsz : w.heap.size = sz at *
  clear hw0
  go_wp2_with fail
  refine (HS.out _ HF0.out).mono ?_
  rintro e w1 ⟨rfl, hf⟩
  have HR1 := Lib.hid (HRC.out.move hf)
  have HB1 := Lib.hid (v.Fresh.at hf HB.out)
  have HF1 := Lib.hid (HF0.out.trans hf)
  clear hf d0 d1 d2 d3
  obtain ⟨d0, d1, d2, d3⟩ := HR1.out
  go_wp2_with fail
  refine (HC.out _ HF1.out).mono ?_
  rintro e w2 ⟨rfl, hf⟩
  have HB2 := Lib.hid (v.Fresh.at ((Fresh.refl w2).alloc (.cells #[.int .i64 sk, .bool sf, .int .i64 sn, .string st, .slice none 0 0, .slice none 0 0] 36 (0, 0))) (v.Fresh.at hf HB1.out))
  have HX2 := Lib.hid (v.at_new w2 (.cells #[.int .i64 sk, .bool sf, .int .i64 sn, .string st, .slice none 0 0, .slice none 0 0] 36 (0, 0)))
  have HF2 := Lib.hid ((HF1.out.trans hf).alloc (.cells #[.int .i64 sk, .bool sf, .int .i64 sn, .string st, .slice none 0 0, .slice none 0 0] 36 (0, 0)))
  have HZ2 : Hid (sz ≠ w2.heap.size) := by have := v.lt_of_at (v.Fresh.at hf HB1.out); rw [Hid]; omega
  clear hf d0 d1 d2 d3
  go_upto_region 14 with (fail)
  generalize w2.alloc (.cells #[.int .i64 sk, .bool sf, .int .i64 sn, .string st, .slice none 0 0, .slice none 0 0] 36 (0, 0)) = w3 at *
  generalize w2.heap.size = gx at *
  have x0 : w3.cell? ⟨gx, 0, none⟩ = some (.int .i64 sk) := cell_of_at HX2.out rfl
  have x1 : w3.cell? ⟨gx, 1, none⟩ = some (.bool sf) := cell_of_at HX2.out rfl
  have x2 : w3.cell? ⟨gx, 2, none⟩ = some (.int .i64 sn) := cell_of_at HX2.out rfl
  have x3 : w3.cell? ⟨gx, 3, none⟩ = some (.string st) := cell_of_at HX2.out rfl
  have x4 : w3.cell? ⟨gx, 4, none⟩ = some (.slice none 0 0) := cell_of_at HX2.out rfl
  have x5 : w3.cell? ⟨gx, 5, none⟩ = some (.slice none 0 0) := cell_of_at HX2.out rfl
  obtain ⟨c0, c1, c2, c3, c4, c5, f, lt⟩ := (show RBox w3 sz from HB2.out).facts
  have f0 := f 0; have f1 := f 1; have f2 := f 2; have f3 := f 3; have f4 := f 4; have f5 := f 5
  clear f
  go_wp2
  refine bodyPost_ret (v := .tuple #[.agg #[.int .i64 sk, .bool sf, .int .i64 sn, .string st, .slice none 0 0, .slice none 0 0], .int .i64 (0), .int .i64 (0)]) (by simp [results, Tryz.results28, go_sem, *]) rfl ⟨rfl, ?_⟩
  exact Wr.toFresh (p := fun k => w.heap.size ≤ k) ((Wr.of_fresh HF2.out).set6 (.inl (Nat.le_of_eq hsz)) _ _ _ _ _ _) (fun k hk h => by omega)
end y
namespace y
def rl (f : Nat → Nat) (r : Rw) : Rw := ⟨f r.line, r.indent, r.dash, r.text⟩
def rr (f : Nat → Nat) : Res → Res
  | .ok x => .ok x
  | .error e => .error (f e.1, e.2)
theorem seg_map (f : Nat → Nat) (ind : Int) (S : List Rw) : seg ind (S.map (rl f)) = (seg ind S).map (rl f) ∧ off ind (S.map (rl f)) = (off ind S).map (rl f) := by
  induction S with
  | nil => exact ⟨rfl, rfl⟩
  | cons r S ih =>
    unfold seg off at *
    rw [List.map_cons, List.takeWhile_cons, List.dropWhile_cons, List.takeWhile_cons, List.dropWhile_cons]
    have e : (rl f r).indent = r.indent := rfl
    rw [e]
    cases h : decide (ind < (r.indent : Int))
    · exact ⟨rfl, rfl⟩
    · exact ⟨by rw [if_pos rfl, if_pos rfl, List.map_cons, ih.1], by rw [if_pos rfl, if_pos rfl, ih.2]⟩
theorem map_all (f : Nat → Nat) : ∀ n : Nat, (∀ S ins, S.length ≤ n → blk (S.map (rl f)) ins = rr f (blk S ins)) ∧
    (∀ S ind ins acc, S.length ≤ n → items ind ins (S.map (rl f)) acc = rr f (items ind ins S acc)) ∧
    (∀ S ind ins acc, S.length ≤ n → pairs ind ins (S.map (rl f)) acc = rr f (pairs ind ins S acc)) := by
  intro n
  induction n with
  | zero =>
    refine ⟨fun S ins h => ?_, fun S ind ins acc h => ?_, fun S ind ins acc h => ?_⟩
    · obtain rfl := List.length_eq_zero_iff.1 (Nat.le_zero.1 h); rw [List.map_nil, blk_nil]; rfl
    · obtain rfl := List.length_eq_zero_iff.1 (Nat.le_zero.1 h); rw [List.map_nil, items.eq_def]; rfl
    · obtain rfl := List.length_eq_zero_iff.1 (Nat.le_zero.1 h); rw [List.map_nil, pairs.eq_def]; rfl
  | succ n ih =>
    obtain ⟨ihB, ihI, ihP⟩ := ih
    have hI : ∀ S ind ins acc, S.length ≤ n + 1 → items ind ins (S.map (rl f)) acc = rr f (items ind ins S acc) := fun S ind ins acc h => by
      cases S with
      | nil => rw [List.map_nil, items.eq_def]; rfl
      | cons r T =>
        have hT : T.length ≤ n := by rw [List.length_cons] at h; omega
        have h1 := seg_len (ind : Int) T
        have h2 := off_len (ind : Int) T
        rw [List.map_cons, items.eq_def, items.eq_def ind ins (r :: T) acc]
        dsimp only [rl]
        by_cases hw : r.indent ≠ ind ∨ r.dash = false
        · rw [if_pos hw, if_pos hw]; rfl
        · rw [if_neg hw, if_neg hw]
          have e1 := (seg_map f ind T).1
          have e2 := (seg_map f ind T).2
          rw [e1, e2]
          have e3 := ihB (seg ind T) (ins + 1) (by omega)
          rw [e3]
          cases blk (seg ind T) (ins + 1) with
          | error e => rfl
          | ok x =>
            have e4 := ihI (off ind T) ind ins (acc ++ [x]) (by omega)
            exact e4
    have hP : ∀ S ind ins acc, S.length ≤ n + 1 → pairs ind ins (S.map (rl f)) acc = rr f (pairs ind ins S acc) := fun S ind ins acc h => by
      cases S with
      | nil => rw [List.map_nil, pairs.eq_def]; rfl
      | cons r T =>
        have hT : T.length ≤ n := by rw [List.length_cons] at h; omega
        have h1 := seg_len (ind : Int) T
        have h2 := off_len (ind : Int) T
        rw [List.map_cons, pairs.eq_def, pairs.eq_def ind ins (r :: T) acc]
        dsimp only [rl]
        by_cases hw : r.indent ≠ ind ∨ r.dash = true
        · rw [if_pos hw, if_pos hw]; rfl
        rw [if_neg hw, if_neg hw]
        by_cases hc : (entM r.text).1 ≠ 0
        · rw [if_pos hc, if_pos hc]; rfl
        rw [if_neg hc, if_neg hc]
        cases (entM r.text).2 with
        | none => rfl
        | some m =>
          dsimp only
          by_cases hk : keyE m (acc.map (·.1)) ≠ 0
          · rw [if_pos hk, if_pos hk]; rfl
          rw [if_neg hk, if_neg hk]
          by_cases hb : m.behind = []
          · rw [if_pos hb, if_pos hb]
            have e1 := (seg_map f ind T).1
            have e2 := (seg_map f ind T).2
            rw [e1, e2]
            have e3 := ihB (seg ind T) (ins + 1) (by omega)
            rw [e3]
            cases blk (seg ind T) (ins + 1) with
            | error e => rfl
            | ok x =>
              have e4 := ihP (off ind T) ind ins (acc ++ [(tx m.key, x)]) (by omega)
              exact e4
          · rw [if_neg hb, if_neg hb]
            by_cases hs : (scM m.behind (ins + 1)).1 ≠ 0
            · rw [if_pos hs, if_pos hs]; rfl
            · rw [if_neg hs, if_neg hs]
              have e4 := ihP T ind ins (acc ++ [(tx m.key, (scM m.behind (ins + 1)).2)]) (by omega)
              exact e4
    refine ⟨fun S ins h => ?_, hI, hP⟩
    cases S with
    | nil => rw [List.map_nil, blk_nil]; rfl
    | cons r T =>
      have eI := hI (r :: T) r.indent ins [] h
      have eP := hP (r :: T) r.indent ins [] h
      rw [List.map_cons] at eI eP ⊢
      rw [blk.eq_def, blk.eq_def (r :: T)]
      dsimp only
      have d1 : (rl f r).dash = r.dash := rfl
      have d2 : (rl f r).text = r.text := rfl
      have d3 : (rl f r).indent = r.indent := rfl
      have d4 : (rl f r).line = f r.line := rfl
      rw [d1, d2, d3, d4, eI, eP]
      by_cases hd : r.dash = true
      · rw [if_pos hd, if_pos hd]
        by_cases h32 : 32 ≤ ins
        · rw [if_pos h32, if_pos h32]; rfl
        · rw [if_neg h32, if_neg h32]
      rw [if_neg hd, if_neg hd]
      by_cases hc : (entM r.text).1 ≠ 0
      · rw [if_pos hc, if_pos hc]; rfl
      rw [if_neg hc, if_neg hc]
      by_cases hk : (entM r.text).2.isSome = true
      · rw [if_pos hk, if_pos hk]
        by_cases h32 : 32 ≤ ins
        · rw [if_pos h32, if_pos h32]; rfl
        · rw [if_neg h32, if_neg h32]
      rw [if_neg hk, if_neg hk]
      by_cases hs : (scM r.text ins).1 ≠ 0
      · rw [if_pos hs, if_pos hs]; rfl
      rw [if_neg hs, if_neg hs]
      cases T with
      | nil => rfl
      | cons r2 T2 => rfl
theorem blk_map (f : Nat → Nat) (S : List Rw) (ins : Nat) : blk (S.map (rl f)) ins = rr f (blk S ins) := (map_all f S.length).1 S ins (Nat.le_refl _)
theorem seg_take (ind : Int) : ∀ (S : List Rw) (n : Nat), seg ind (S.take n) = (seg ind S).take n
  | [], n => by simp [seg]
  | r :: S, 0 => by simp [seg]
  | r :: S, n + 1 => by
    have ih := seg_take ind S n
    unfold seg at *
    rw [List.take_succ_cons, List.takeWhile_cons, List.takeWhile_cons]
    cases decide (ind < (r.indent : Int))
    · rfl
    · rw [if_pos rfl, if_pos rfl, List.take_succ_cons, ih]
theorem off_drop (ind : Int) : ∀ S : List Rw, off ind S = S.drop (seg ind S).length
  | [] => by simp [off, seg]
  | r :: S => by
    have ih := off_drop ind S
    unfold off seg at *
    rw [List.dropWhile_cons, List.takeWhile_cons]
    cases decide (ind < (r.indent : Int))
    · rfl
    · rw [if_pos rfl, if_pos rfl, List.length_cons, List.drop_succ_cons, ih]
theorem seg_prefix (ind : Int) (S : List Rw) : seg ind S = S.take (seg ind S).length := by
  induction S with
  | nil => rfl
  | cons r S ih =>
    unfold seg at *
    rw [List.takeWhile_cons]
    cases decide (ind < (r.indent : Int))
    · rfl
    · rw [if_pos rfl, List.length_cons, List.take_succ_cons, ← ih]
theorem seg_upto (ind : Int) (R : List Rw) (i e : Nat) (_hi : i ≤ e) (_he : e ≤ R.length) :
    seg ind ((R.drop i).take (e - i)) = (R.drop i).take (min (i + (seg ind (R.drop i)).length) e - i) ∧
    off ind ((R.drop i).take (e - i)) = (R.drop (min (i + (seg ind (R.drop i)).length) e)).take (e - min (i + (seg ind (R.drop i)).length) e) := by
  have h1 : seg ind ((R.drop i).take (e - i)) = (R.drop i).take (min (i + (seg ind (R.drop i)).length) e - i) := by
    rw [seg_take]
    conv => lhs; rw [seg_prefix ind (R.drop i)]
    rw [List.take_take]
    congr 1
    omega
  refine ⟨h1, ?_⟩
  rw [off_drop, h1, List.length_take, List.length_drop, List.drop_take, List.drop_drop]
  congr 1
  · omega
  · congr 1; omega
end y
namespace y
open Go.Lib
def Local (g : List UInt8 → Int × List UInt8 × List UInt8) (l : List UInt8) : Prop := ∃ p, l = p ++ (g l).2.2 ∧ ∀ X, g (p ++ X) = (0, (g l).2.1, X)
theorem numF_app : ∀ (k : Nat) (n : Int) (l : List UInt8), (numF k n l).1 = 0 → ∃ p, p.length = k ∧ l = p ++ (numF k n l).2.2 ∧ ∀ X, numF k n (p ++ X) = (0, (numF k n l).2.1, X)
  | 0, n, l, _ => ⟨[], rfl, rfl, fun X => rfl⟩
  | k + 1, n, [], h => by simp [numF] at h
  | k + 1, n, c :: l, h => by
    rw [numF] at h ⊢
    by_cases hc : hexv c < 0
    · rw [if_pos hc] at h; simp at h
    · rw [if_neg hc] at h ⊢
      obtain ⟨p, h1, h2, h3⟩ := numF_app k _ l h
      refine ⟨c :: p, by rw [List.length_cons, h1], by rw [List.cons_append, ← h2], fun X => ?_⟩
      rw [List.cons_append, numF, if_neg hc, h3]
theorem chLen_app (l X : List UInt8) (hne : l ≠ []) (hv : validD (l.take (chLen l)) = true) : chLen (l.take (chLen l) ++ X) = chLen l := by
  have hb := chLen_bd l hne
  have hl : (l.take (chLen l)).length = chLen l := by rw [List.length_take]; omega
  have hne2 : l.take (chLen l) ++ X ≠ [] := fun e => by
    have := congrArg List.length e
    rw [List.length_append, hl] at this
    simp at this; omega
  have hb2 := chLen_bd (l.take (chLen l) ++ X) hne2
  have ht : ∀ m, m ≤ chLen l → (l.take (chLen l) ++ X).take m = l.take m := fun m hm => by
    rw [List.take_append_of_le_length (by omega), List.take_take, Nat.min_eq_left hm]
  rcases len_math l hne with ⟨_, h2⟩ | ⟨h1, _⟩
  · rcases len_math (l.take (chLen l) ++ X) hne2 with ⟨h3, h4⟩ | ⟨_, h4⟩
    · by_cases a : chLen (l.take (chLen l) ++ X) < chLen l
      · rw [ht _ (by omega), h2 _ hb2.1 a] at h3; cases h3
      by_cases b : chLen l < chLen (l.take (chLen l) ++ X)
      · have := h4 _ hb.1 b
        rw [ht _ (Nat.le_refl _), hv] at this; cases this
      · omega
    · have := h4 (chLen l) hb.1 (by rw [List.length_append, hl]; omega) hb.2.2
      rw [ht _ (Nat.le_refl _), hv] at this; cases this
  · rw [hv] at h1; cases h1
theorem other_two (v : Int) (t : List UInt8) : otherF v (92 :: 117 :: t) = if (numF 4 0 t).1 ≠ 0 then ((numF 4 0 t).1, 0, []) else if secondB (numF 4 0 t).2.1 = false then (10, 0, []) else (0, 65536 + (v - 55296) * 1024 + ((numF 4 0 t).2.1 - 56320), (numF 4 0 t).2.2) := by
  have e2 : ([92, 117] : List UInt8).isPrefixOf (92 :: 117 :: t) = true := by simp [List.isPrefixOf]
  cases t with
  | nil => rfl
  | cons d t =>
    have e1 : (92 :: 117 :: d :: t).isPrefixOf [92, 117] = false := by simp [List.isPrefixOf]
    unfold otherF
    rw [e1, e2, if_neg (by simp), if_neg (by simp)]
    rfl
theorem otherF_app (v : Int) (l : List UInt8) (h : (otherF v l).1 = 0) : ∃ p, l = p ++ (otherF v l).2.2 ∧ ∀ X, otherF v (p ++ X) = (0, (otherF v l).2.1, X) := by
  have hb : ([92, 117] : List UInt8).isPrefixOf l = true := by
    cases hb : ([92, 117] : List UInt8).isPrefixOf l with
    | true => rfl
    | false =>
      unfold otherF at h
      by_cases a : l.isPrefixOf [92, 117] = true
      · rw [if_pos a] at h; simp at h
      · rw [if_neg a, if_pos hb] at h; simp at h
  obtain ⟨r, rfl⟩ := two_of hb
  rw [other_two] at h ⊢
  by_cases c : (numF 4 0 r).1 ≠ 0
  · rw [if_pos c] at h; exact absurd h c
  rw [if_neg c] at h ⊢
  by_cases d : secondB (numF 4 0 r).2.1 = false
  · rw [if_pos d] at h; simp at h
  rw [if_neg d]
  obtain ⟨p, _, h2, h3⟩ := numF_app 4 0 r (by simpa using c)
  refine ⟨92 :: 117 :: p, by dsimp only; rw [List.cons_append, List.cons_append, ← h2], fun X => ?_⟩
  rw [List.cons_append, List.cons_append, other_two, h3 X]
  dsimp only
  rw [if_neg (by simp), if_neg d]
theorem byNum_app (l : List UInt8) (h : (byNumF l).1 = 0) : Local byNumF l := by
  by_cases c : (numF 4 0 l).1 ≠ 0
  · rw [byNum_err l c] at h; exact absurd h c
  have c0 : (numF 4 0 l).1 = 0 := by simpa using c
  obtain ⟨p, _, h2, h3⟩ := numF_app 4 0 l c0
  cases hf : firstB (numF 4 0 l).2.1 with
  | true =>
    have e := byNum_pair l c0 hf
    rw [e] at h
    by_cases d : (otherF (numF 4 0 l).2.1 (numF 4 0 l).2.2).1 ≠ 0
    · rw [if_pos d] at h; exact absurd h d
    rw [if_neg d] at e
    obtain ⟨q, h4, h5⟩ := otherF_app _ _ (by simpa using d)
    unfold Local
    rw [e]
    refine ⟨p ++ q, by dsimp only; rw [List.append_assoc, ← h4, ← h2], fun X => ?_⟩
    have e3 := h3 (q ++ X)
    have e5 := h5 X
    rw [List.append_assoc, byNum_pair (p ++ (q ++ X)) (by rw [e3]) (by rw [e3]; exact hf), e3]
    dsimp only
    rw [e5, if_neg (by simp)]
  | false =>
    cases hs : secondB (numF 4 0 l).2.1 with
    | true => rw [byNum_sec l c0 hf hs] at h; simp at h
    | false =>
      have e := byNum_one l c0 hf hs
      unfold Local
      rw [e]
      refine ⟨p, h2, fun X => ?_⟩
      have e3 := h3 X
      rw [byNum_one (p ++ X) (by rw [e3]) (by rw [e3]; exact hf) (by rw [e3]; exact hs), e3]
theorem escF_app (l : List UInt8) (h : (escF l).1 = 0) : Local escF l := by
  cases l with
  | nil => simp [escF] at h
  | cons c r =>
    by_cases hc : c = 117
    · subst hc
      have e : ∀ r, escF (117 :: r) = byNumF r := fun r => rfl
      rw [e] at h
      obtain ⟨p, h1, h2⟩ := byNum_app r h
      unfold Local
      rw [e]
      exact ⟨117 :: p, by rw [List.cons_append, ← h1], fun X => by rw [List.cons_append, e]; exact h2 X⟩
    · have key : ∃ m, ∀ r, escF (c :: r) = (0, m, r) := by
        unfold escF at h ⊢
        dsimp only at h ⊢
        repeat' split
        all_goals first | exact ⟨_, fun _ => rfl⟩ | (exfalso; simp_all)
      obtain ⟨m, hm⟩ := key
      unfold Local
      rw [hm]
      exact ⟨[c], rfl, fun X => hm X⟩
theorem chrF_app (l : List UInt8) (h : (chrF l).1 = 0) : ∃ p, p ≠ [] ∧ p.head? = l.head? ∧ l = p ++ (chrF l).2.2 ∧ ∀ X, chrF (p ++ X) = (0, (chrF l).2.1, X) := by
  cases l with
  | nil => simp [chrF] at h
  | cons c r =>
    by_cases hc : c = 92
    · subst hc
      have e : ∀ r, chrF (92 :: r) = escF r := fun r => by unfold chrF; simp
      rw [e] at h ⊢
      obtain ⟨p, h1, h2⟩ := escF_app r h
      exact ⟨92 :: p, by simp, rfl, by rw [List.cons_append, ← h1], fun X => by rw [List.cons_append, e]; exact h2 X⟩
    · have hb := chLen_bd (c :: r) (by simp)
      have e : ∀ r, chrF (c :: r) = if c.toNat < 32 ∨ validD ((c :: r).take (chLen (c :: r))) = false then (10, [], []) else (0, (c :: r).take (chLen (c :: r)), (c :: r).drop (chLen (c :: r))) := fun r => by unfold chrF; dsimp only; rw [if_neg hc]
      rw [e] at h ⊢
      by_cases hd : c.toNat < 32 ∨ validD ((c :: r).take (chLen (c :: r))) = false
      · rw [if_pos hd] at h; simp at h
      rw [if_neg hd]
      dsimp only
      have hv : validD ((c :: r).take (chLen (c :: r))) = true := by
        cases hv : validD ((c :: r).take (chLen (c :: r))) with
        | true => rfl
        | false => exact absurd (.inr hv) hd
      obtain ⟨q, hq⟩ : ∃ q, (c :: r).take (chLen (c :: r)) = c :: q := by
        obtain ⟨n, hn⟩ : ∃ n, chLen (c :: r) = n + 1 := ⟨chLen (c :: r) - 1, by omega⟩
        exact ⟨r.take n, by rw [hn, List.take_succ_cons]⟩
      refine ⟨(c :: r).take (chLen (c :: r)), by rw [hq]; simp, by rw [hq]; rfl, (List.take_append_drop _ _).symm, fun X => ?_⟩
      have hlen : ((c :: r).take (chLen (c :: r))).length = chLen (c :: r) := by rw [List.length_take]; omega
      have hca := chLen_app (c :: r) X (by simp) hv
      have e2 := e (q ++ X)
      rw [hq] at hlen hca hv ⊢
      rw [List.cons_append] at hca ⊢
      rw [e2, hca]
      have t1 : (c :: (q ++ X)).take (chLen (c :: r)) = c :: q := by rw [← List.cons_append, List.take_append_of_le_length (by omega), List.take_of_length_le (by omega)]
      have t2 : (c :: (q ++ X)).drop (chLen (c :: r)) = X := by rw [← List.cons_append, ← hlen, List.drop_left]
      rw [t1, t2, if_neg]
      intro k
      rcases k with k | k
      · exact hd (.inl k)
      · rw [hv] at k; cases k
theorem loopF_app : ∀ (f : Nat) (l acc : List UInt8), (loopF f l acc).1 = 0 → ∃ p, l = p ++ (loopF f l acc).2.2 ∧ ∀ (f' : Nat) (X : List UInt8), p.length < f' → loopF f' (p ++ X) acc = (0, (loopF f l acc).2.1, X)
  | 0, l, acc, h => by rw [loopF] at h; simp at h
  | f + 1, [], acc, h => by rw [loopF] at h; simp at h
  | f + 1, c :: r, acc, h => by
    by_cases hc : c = 34
    · have e : loopF (f + 1) (c :: r) acc = (0, acc, r) := by rw [loopF, if_pos hc]
      rw [e]
      refine ⟨[c], rfl, fun f' X hf => ?_⟩
      obtain ⟨g, rfl⟩ : ∃ g, f' = g + 1 := ⟨f' - 1, by simp at hf; omega⟩
      rw [List.cons_append, List.nil_append, loopF, if_pos hc]
    · have e : loopF (f + 1) (c :: r) acc = if (chrF (c :: r)).1 ≠ 0 then ((chrF (c :: r)).1, [], []) else loopF f (chrF (c :: r)).2.2 (acc ++ (chrF (c :: r)).2.1) := by rw [loopF, if_neg hc]
      rw [e] at h ⊢
      by_cases hx : (chrF (c :: r)).1 ≠ 0
      · rw [if_pos hx] at h; exact absurd h hx
      rw [if_neg hx] at h ⊢
      obtain ⟨p1, hne, hh, h1, h2⟩ := chrF_app (c :: r) (by simpa using hx)
      obtain ⟨p2, h3, h4⟩ := loopF_app f _ _ h
      refine ⟨p1 ++ p2, by rw [List.append_assoc, ← h3]; exact h1, fun f' X hf => ?_⟩
      obtain ⟨g, rfl⟩ : ∃ g, f' = g + 1 := ⟨f' - 1, by omega⟩
      obtain ⟨d, q, rfl⟩ : ∃ d q, p1 = d :: q := by cases p1 with | nil => exact absurd rfl hne | cons d q => exact ⟨d, q, rfl⟩
      have hd : d = c := by simpa using hh
      subst hd
      have e2 := h2 (p2 ++ X)
      rw [List.append_assoc, List.cons_append] at *
      rw [loopF, if_neg hc, e2, if_neg (by simp)]
      exact h4 g X (by rw [List.length_cons, List.length_append] at hf; omega)
theorem unq_alone (q : List UInt8) (h : (unqF (34 :: q)).2.2 = 0) : unqF ((34 :: q).take (unqF (34 :: q)).2.1) = unqF (34 :: q) := by
  have hU : ∀ r : List UInt8, unqF (34 :: r) = if (loopF (r.length + 1) r []).1 ≠ 0 then ([], 0, (loopF (r.length + 1) r []).1) else
      if 4096 < (loopF (r.length + 1) r []).2.1.length then ([], 0, 2) else ((loopF (r.length + 1) r []).2.1, (34 :: r).length - (loopF (r.length + 1) r []).2.2.length, 0) := fun r => by
    rw [unqF, if_neg (by simp)]
  have hq := hU q
  by_cases hx : (loopF (q.length + 1) q []).1 ≠ 0
  · rw [if_pos hx] at hq; rw [hq] at h; exact absurd h hx
  rw [if_neg hx] at hq
  by_cases h4 : 4096 < (loopF (q.length + 1) q []).2.1.length
  · rw [if_pos h4] at hq; rw [hq] at h; simp at h
  rw [if_neg h4] at hq
  obtain ⟨p, h1, h2⟩ := loopF_app (q.length + 1) q [] (by simpa using hx)
  generalize loopF (q.length + 1) q [] = L at *
  obtain ⟨x, t, rest⟩ := L
  dsimp only at *
  rw [hq]
  dsimp only
  have hl : (34 :: q).length - rest.length = p.length + 1 := by
    rw [h1, List.length_cons, List.length_append]; omega
  have ht : (34 :: q).take (p.length + 1) = 34 :: p := by
    rw [List.take_succ_cons, h1, List.take_left]
  have h5 := h2 (p.length + 1) [] (by omega)
  rw [List.append_nil] at h5
  rw [hl, ht, hU p, h5, if_neg (by simp), if_neg h4]
  simp
end y
namespace y
def posR : Nat → List Rw → List Rw
  | _, [] => []
  | i, r :: R => ⟨i, r.indent, r.dash, r.text⟩ :: posR (i + 1) R
theorem posR_len : ∀ (R : List Rw) (i : Nat), (posR i R).length = R.length
  | [], _ => rfl
  | r :: R, i => by rw [posR, List.length_cons, List.length_cons, posR_len R]
theorem posR_get : ∀ (R : List Rw) (i k : Nat) (h : k < R.length), (posR i R)[k]'(by rw [posR_len]; exact h) = ⟨i + k, R[k].indent, R[k].dash, R[k].text⟩
  | [], _, k, h => by simp at h
  | r :: R, i, 0, h => rfl
  | r :: R, i, k + 1, h => by
    have := posR_get R (i + 1) k (by simpa using h)
    simp only [posR, List.getElem_cons_succ]
    rw [this]
    congr 1
    omega
theorem posR_map (f : Nat → Nat) : ∀ (R : List Rw) (i : Nat), (∀ (k : Nat) (h : k < R.length), f (i + k) = R[k].line) → (posR i R).map (rl f) = R
  | [], _, _ => rfl
  | r :: R, i, h => by
    have h0 := h 0 (by simp)
    have ih := posR_map f R (i + 1) (fun k hk => by
      have := h (k + 1) (by simpa using hk)
      rw [List.getElem_cons_succ] at this
      rw [← this]; congr 1; omega)
    rw [posR, List.map_cons, ih]
    simp only [Nat.add_zero, List.getElem_cons_zero] at h0
    unfold rl
    simp only [h0]
def cutP (R : List Rw) (a e : Nat) : List Rw := ((posR 0 R).drop a).take (e - a)
theorem cutP_nil (R : List Rw) (a : Nat) : cutP R a a = [] := by rw [cutP, Nat.sub_self, List.take_zero]
theorem cutP_cons {R : List Rw} {a e : Nat} (h : a < e) (he : e ≤ R.length) : cutP R a e = ⟨a, (R[a]'(by omega)).indent, (R[a]'(by omega)).dash, (R[a]'(by omega)).text⟩ :: cutP R (a + 1) e := by
  have hl : a < (posR 0 R).length := by rw [posR_len]; omega
  unfold cutP
  rw [List.drop_eq_getElem_cons hl, show e - a = (e - (a + 1)) + 1 by omega, List.take_succ_cons, posR_get R 0 a (by omega), Nat.zero_add]
theorem seg_rl (ind : Int) : ∀ (R : List Rw) (i : Nat), (seg ind (posR i R)).length = (seg ind R).length
  | [], _ => rfl
  | r :: R, i => by
    have ih := seg_rl ind R (i + 1)
    unfold seg at *
    rw [posR, List.takeWhile_cons, List.takeWhile_cons]
    dsimp only
    cases decide (ind < (r.indent : Int))
    · rfl
    · rw [if_pos rfl, if_pos rfl, List.length_cons, List.length_cons, ih]
theorem posR_drop : ∀ (R : List Rw) (i a : Nat), (posR i R).drop a = posR (i + a) (R.drop a)
  | R, i, 0 => rfl
  | [], i, a + 1 => rfl
  | r :: R, i, a + 1 => by
    rw [posR, List.drop_succ_cons, List.drop_succ_cons, posR_drop R (i + 1) a]
    congr 1; omega
def nextP (R : List Rw) (ind : Int) (a e : Nat) : Nat := min (a + (seg ind (R.drop a)).length) e
theorem nextP_le (R : List Rw) (ind : Int) {a e : Nat} (h : a ≤ e) : a ≤ nextP R ind a e ∧ nextP R ind a e ≤ e := by unfold nextP; omega
theorem cutP_seg (R : List Rw) (ind : Int) {a e : Nat} (h : a ≤ e) (he : e ≤ R.length) : seg ind (cutP R a e) = cutP R a (nextP R ind a e) ∧ off ind (cutP R a e) = cutP R (nextP R ind a e) e := by
  have := seg_upto ind (posR 0 R) a e h (by rw [posR_len]; exact he)
  rw [posR_drop R 0 a, seg_rl] at this
  unfold cutP nextP
  rw [posR_drop R 0 a]
  exact this
theorem blk_pos (R : List Rw) (f : Nat → Nat) (ins : Nat) (h : ∀ (k : Nat) (hk : k < R.length), f k = R[k].line) : blk R ins = rr f (blk (cutP R 0 R.length) ins) := by
  have e : cutP R 0 R.length = posR 0 R := by
    unfold cutP
    rw [List.drop_zero, Nat.sub_zero, List.take_of_length_le (by rw [posR_len]; exact Nat.le_refl _)]
  rw [e, ← blk_map f, posR_map f R 0 (fun k hk => by rw [Nat.zero_add]; exact h k hk)]
end y
namespace v
open Go.ChangeShapes Go.WideShapes Go.ChangeAt Go.RowKit
variable {w : World}
def contOK : List UInt8 → Nat → Nat → Nat → Bool
  | _, 0, _, _ => true
  | [], _ + 1, _, _ => false
  | b :: l, n + 1, lo, hi => decide (lo ≤ b.toNat ∧ b.toNat ≤ hi) && contOK l n 128 191
theorem valid_lead (c : UInt8) (l : List UInt8) (n lo hi : Nat) (hc : 128 ≤ c.toNat) (hn : n = 1 ∨ n = 2 ∨ n = 3) (h1 : Lib.firstT c.toNat % 8 = n + 1) (h2 : Lib.accLo (Lib.firstT c.toNat / 16) = lo) (h3 : Lib.accHi (Lib.firstT c.toNat / 16) = hi) :
    Lib.validD (c :: l) = (contOK l n lo hi && Lib.validD (l.drop n)) := by
  rw [Lib.validD_lead (c :: l) (by simp) (by simpa using hc)]
  simp only [List.getD_cons_zero, List.getD_cons_succ, h1, h2, h3]
  rcases hn with rfl | rfl | rfl
  · rcases l with _ | ⟨a, l⟩
    · simp [Lib.checkN, contOK]
    · by_cases ha : lo ≤ a.toNat ∧ a.toNat ≤ hi
      · rw [Lib.checkN, if_pos rfl, if_neg (by simp; omega)]
        simp [contOK, ha]
      · rw [Lib.checkN, if_pos rfl, if_pos (by simp; omega)]
        simp [contOK, ha]
  · rcases l with _ | ⟨a, _ | ⟨b, l⟩⟩
    · simp [Lib.checkN, contOK]
    · simp [Lib.checkN, contOK]
    · by_cases ha : lo ≤ a.toNat ∧ a.toNat ≤ hi
      · by_cases hb : 128 ≤ b.toNat ∧ b.toNat ≤ 191
        · rw [Lib.checkN, if_neg (by omega), if_pos rfl, if_neg (by simp; omega)]
          simp [contOK, ha, hb]
        · rw [Lib.checkN, if_neg (by omega), if_pos rfl, if_pos (by simp; omega)]
          simp [contOK, hb]
      · rw [Lib.checkN, if_neg (by omega), if_pos rfl, if_pos (by simp; omega)]
        simp [contOK, ha]
  · rcases l with _ | ⟨a, _ | ⟨b, _ | ⟨d, l⟩⟩⟩
    · simp [Lib.checkN, contOK]
    · simp [Lib.checkN, contOK]
    · simp [Lib.checkN, contOK]
    · by_cases ha : lo ≤ a.toNat ∧ a.toNat ≤ hi
      · by_cases hb : 128 ≤ b.toNat ∧ b.toNat ≤ 191
        · by_cases hd : 128 ≤ d.toNat ∧ d.toNat ≤ 191
          · rw [Lib.checkN, if_neg (by omega), if_neg (by omega), if_pos rfl, if_neg (by simp; omega)]
            simp [contOK, ha, hb, hd]
          · rw [Lib.checkN, if_neg (by omega), if_neg (by omega), if_pos rfl, if_pos (by simp; omega)]
            simp [contOK, hd]
        · rw [Lib.checkN, if_neg (by omega), if_neg (by omega), if_pos rfl, if_pos (by simp; omega)]
          simp [contOK, hb]
      · rw [Lib.checkN, if_neg (by omega), if_neg (by omega), if_pos rfl, if_pos (by simp; omega)]
        simp [contOK, ha]
theorem valid_bad (c : UInt8) (l : List UInt8) (hc : 128 ≤ c.toNat) (h1 : Lib.firstT c.toNat = 241) : Lib.validD (c :: l) = false := by
  rw [Lib.validD_lead (c :: l) (by simp) (by simpa using hc)]
  simp [Lib.checkN, h1]
theorem drop_at (s : ByteArray) (i : Nat) (h : i < s.size) : s.data.toList.drop i = s[i] :: s.data.toList.drop (i + 1) := by
  rw [List.drop_eq_getElem_cons (by simpa using h)]; rfl
def Lead (s : ByteArray) (i n lo hi : Nat) : Prop := Lib.validD (s.data.toList.drop i) = (contOK (s.data.toList.drop (i + 1)) n lo hi && Lib.validD (s.data.toList.drop (i + 1 + n)))
theorem lead_of (s : ByteArray) (i n lo hi : Nat) (h : i < s.size) (hc : 128 ≤ s[i].toNat) (hn : n = 1 ∨ n = 2 ∨ n = 3) (h1 : Lib.firstT s[i].toNat % 8 = n + 1) (h2 : Lib.accLo (Lib.firstT s[i].toNat / 16) = lo) (h3 : Lib.accHi (Lib.firstT s[i].toNat / 16) = hi) : Lead s i n lo hi := by
  unfold Lead
  rw [drop_at s i h, valid_lead _ _ n lo hi hc hn h1 h2 h3, List.drop_drop]
theorem lead_ascii (s : ByteArray) (i : Nat) (h : i < s.size) (hc : s[i].toNat < 128) : Lead s i 0 128 191 := by
  unfold Lead
  rw [drop_at s i h, Lib.validD_cons _ _ hc, contOK, Bool.true_and, Nat.add_zero]
theorem lead_bad (s : ByteArray) (i : Nat) (h : i < s.size) (hc : 128 ≤ s[i].toNat) (h1 : Lib.firstT s[i].toNat = 241) : Lib.validD (s.data.toList.drop i) = false := by
  rw [drop_at s i h, valid_bad _ _ hc h1]
def Cont (s : ByteArray) (i n lo hi k lo' hi' : Nat) : Prop := contOK (s.data.toList.drop (i + 1)) n lo hi = contOK (s.data.toList.drop (i + k)) (n + 1 - k) lo' hi'
theorem cont_short {s : ByteArray} {i n lo hi k lo' hi' : Nat} (h : Cont s i n lo hi k lo' hi') (hk : k ≤ n) (hs : s.size ≤ i + k) : contOK (s.data.toList.drop (i + 1)) n lo hi = false := by
  rw [h, List.drop_eq_nil_of_le (by simpa using hs), show n + 1 - k = (n - k) + 1 by omega, contOK]
theorem cont_no {s : ByteArray} {i n lo hi k lo' hi' : Nat} (h : Cont s i n lo hi k lo' hi') (hk : k ≤ n) (hs : i + k < s.size) (hb : s[i + k].toNat < lo' ∨ hi' < s[i + k].toNat) : contOK (s.data.toList.drop (i + 1)) n lo hi = false := by
  rw [h, drop_at s (i + k) hs, show n + 1 - k = (n - k) + 1 by omega, contOK, decide_eq_false (by omega), Bool.false_and]
theorem cont_yes {s : ByteArray} {i n lo hi k lo' hi' : Nat} (h : Cont s i n lo hi k lo' hi') (hk : k ≤ n) (hs : i + k < s.size) (hb : lo' ≤ s[i + k].toNat ∧ s[i + k].toNat ≤ hi') : Cont s i n lo hi (k + 1) 128 191 := by
  unfold Cont at h ⊢
  rw [h, drop_at s (i + k) hs, show n + 1 - k = (n - k) + 1 by omega, contOK, decide_eq_true hb, Bool.true_and, show n + 1 - (k + 1) = n - k by omega, Nat.add_assoc]
theorem cont_end {s : ByteArray} {i n lo hi lo' hi' : Nat} (h : Cont s i n lo hi (n + 1) lo' hi') : contOK (s.data.toList.drop (i + 1)) n lo hi = true := by
  rw [h, Nat.sub_self, contOK]
theorem utf8_any (s : ByteArray) (w : World) (hs : s.size ≤ 1000000) : Calls Tryz.prog 87 #[.string s] w fun e w' => e = .returned (.bool (Lib.validD s.data.toList)) ∧ w = w' := by
  go_enter Tryz.func87, Tryz.ntmps87
  go_wp2
  go_loop [3] (fun i => ∃ k : Nat, k ≤ s.size + 3 ∧ i = .int .i64 k ∧ Hid (Lib.validD s.data.toList = Lib.validD (s.data.toList.drop k))) (fun i => s.size + 4 - (intOf i).toNat)
  case atStart => exact ⟨0, by omega, rfl, rfl⟩
  case round =>
    obtain ⟨i, hi, rfl, HI⟩ := hrel
    by_cases hlt : i < s.size
    · have hcb : (s[i].toNat : Int) ≤ 255 := by have := s[i].toNat_lt; omega
      go_upto_block 2 with (fail)
      go_cut [0, 3, 5, 6, 7] (fun a0 a3 a5 a6 a7 wc => a0 = .string s ∧ a3 = .int .i64 i ∧ wc = w ∧ ∃ n lo hi : Nat, n ≤ 3 ∧ lo ≤ 255 ∧ hi ≤ 255 ∧ a5 = .int .u8 lo ∧ a6 = .int .u8 hi ∧ a7 = .int .i64 n ∧ Hid (Lead s i n lo hi))
      case first =>
        by_cases c0 : s[i].toNat < 128
        · have HL := Lib.hid (lead_ascii s i hlt c0)
          have hc : (s[i].toNat : Int) < 128 := by omega
          clear c0
          go_wp2
          go_meet
          case rel => exact ⟨rfl, rfl, rfl, 0, 128, 191, by omega, by omega, by omega, rfl, rfl, rfl, HL.out⟩
        have h0 : ¬ (s[i].toNat : Int) < 128 := by omega
        by_cases c1 : s[i].toNat < 194
        · have HL := Lib.hid (lead_bad s i hlt (by omega) (by simp [Lib.firstT, c0, c1]))
          have e1 : ¬ (194 : Int) ≤ (s[i].toNat : Int) := by omega
          have e2 : ¬ (224 : Int) ≤ (s[i].toNat : Int) := by omega
          have e3 : ¬ (240 : Int) ≤ (s[i].toNat : Int) := by omega
          clear c0 c1
          go_wp2
          go_ret
          exact ⟨ret_bool (by rw [HI.out, HL.out]), rfl⟩
        have h1 : (194 : Int) ≤ (s[i].toNat : Int) := by omega
        by_cases c2 : s[i].toNat < 224
        · have HL := Lib.hid (lead_of s i 1 128 191 hlt (by omega) (by omega) (by simp [Lib.firstT, c0, c1, c2]) (by simp [Lib.firstT, Lib.accLo, c0, c1, c2]) (by simp [Lib.firstT, Lib.accHi, c0, c1, c2]))
          have e1 : (s[i].toNat : Int) ≤ 223 := by omega
          clear c0 c1 c2
          go_wp2
          go_meet
          case rel => exact ⟨rfl, rfl, rfl, 1, 128, 191, by omega, by omega, by omega, rfl, rfl, rfl, HL.out⟩
        have h2 : ¬ (s[i].toNat : Int) ≤ 223 := by omega
        have h3 : (224 : Int) ≤ (s[i].toNat : Int) := by omega
        by_cases c3 : s[i].toNat = 224
        · have HL := Lib.hid (lead_of s i 2 160 191 hlt (by omega) (by omega) (by rw [c3]; decide) (by rw [c3]; decide) (by rw [c3]; decide))
          have e1 : (s[i].toNat : Int) ≤ 239 := by omega
          have e2 : ((s[i].toNat : Int) == 224) = true := by simp; omega
          have e3 : ((s[i].toNat : Int) == 237) = false := by simp; omega
          clear c0 c1 c2 c3
          go_wp2
          go_meet
          case rel => exact ⟨rfl, rfl, rfl, 2, 160, 191, by omega, by omega, by omega, rfl, rfl, rfl, HL.out⟩
        have h4 : ((s[i].toNat : Int) == 224) = false := by simp; omega
        by_cases c4 : s[i].toNat < 237
        · have HL := Lib.hid (lead_of s i 2 128 191 hlt (by omega) (by omega) (by simp [Lib.firstT, c0, c1, c2, c3, c4]) (by simp [Lib.firstT, Lib.accLo, c0, c1, c2, c3, c4]) (by simp [Lib.firstT, Lib.accHi, c0, c1, c2, c3, c4]))
          have e1 : (s[i].toNat : Int) ≤ 239 := by omega
          have e3 : ((s[i].toNat : Int) == 237) = false := by simp; omega
          clear c0 c1 c2 c3 c4
          go_wp2
          go_meet
          case rel => exact ⟨rfl, rfl, rfl, 2, 128, 191, by omega, by omega, by omega, rfl, rfl, rfl, HL.out⟩
        by_cases c5 : s[i].toNat = 237
        · have HL := Lib.hid (lead_of s i 2 128 159 hlt (by omega) (by omega) (by rw [c5]; decide) (by rw [c5]; decide) (by rw [c5]; decide))
          have e1 : (s[i].toNat : Int) ≤ 239 := by omega
          have e3 : ((s[i].toNat : Int) == 237) = true := by simp; omega
          clear c0 c1 c2 c3 c4 c5
          go_wp2
          go_meet
          case rel => exact ⟨rfl, rfl, rfl, 2, 128, 159, by omega, by omega, by omega, rfl, rfl, rfl, HL.out⟩
        have h5 : ((s[i].toNat : Int) == 237) = false := by simp; omega
        by_cases c6 : s[i].toNat < 240
        · have HL := Lib.hid (lead_of s i 2 128 191 hlt (by omega) (by omega) (by simp [Lib.firstT, c0, c1, c2, c3, c4, c5, c6]) (by simp [Lib.firstT, Lib.accLo, c0, c1, c2, c3, c4, c5, c6]) (by simp [Lib.firstT, Lib.accHi, c0, c1, c2, c3, c4, c5, c6]))
          have e1 : (s[i].toNat : Int) ≤ 239 := by omega
          clear c0 c1 c2 c3 c4 c5 c6
          go_wp2
          go_meet
          case rel => exact ⟨rfl, rfl, rfl, 2, 128, 191, by omega, by omega, by omega, rfl, rfl, rfl, HL.out⟩
        have h6 : ¬ (s[i].toNat : Int) ≤ 239 := by omega
        have h7 : (240 : Int) ≤ (s[i].toNat : Int) := by omega
        by_cases c7 : s[i].toNat = 240
        · have HL := Lib.hid (lead_of s i 3 144 191 hlt (by omega) (by omega) (by rw [c7]; decide) (by rw [c7]; decide) (by rw [c7]; decide))
          have e1 : (s[i].toNat : Int) ≤ 244 := by omega
          have e2 : ((s[i].toNat : Int) == 240) = true := by simp; omega
          have e3 : ((s[i].toNat : Int) == 244) = false := by simp; omega
          clear c0 c1 c2 c3 c4 c5 c6 c7
          go_wp2
          go_meet
          case rel => exact ⟨rfl, rfl, rfl, 3, 144, 191, by omega, by omega, by omega, rfl, rfl, rfl, HL.out⟩
        have h8 : ((s[i].toNat : Int) == 240) = false := by simp; omega
        by_cases c8 : s[i].toNat < 244
        · have HL := Lib.hid (lead_of s i 3 128 191 hlt (by omega) (by omega) (by simp [Lib.firstT, c0, c1, c2, c3, c4, c5, c6, c7, c8]) (by simp [Lib.firstT, Lib.accLo, c0, c1, c2, c3, c4, c5, c6, c7, c8]) (by simp [Lib.firstT, Lib.accHi, c0, c1, c2, c3, c4, c5, c6, c7, c8]))
          have e1 : (s[i].toNat : Int) ≤ 244 := by omega
          have e3 : ((s[i].toNat : Int) == 244) = false := by simp; omega
          clear c0 c1 c2 c3 c4 c5 c6 c7 c8
          go_wp2
          go_meet
          case rel => exact ⟨rfl, rfl, rfl, 3, 128, 191, by omega, by omega, by omega, rfl, rfl, rfl, HL.out⟩
        by_cases c9 : s[i].toNat = 244
        · have HL := Lib.hid (lead_of s i 3 128 143 hlt (by omega) (by omega) (by rw [c9]; decide) (by rw [c9]; decide) (by rw [c9]; decide))
          have e1 : (s[i].toNat : Int) ≤ 244 := by omega
          have e3 : ((s[i].toNat : Int) == 244) = true := by simp; omega
          clear c0 c1 c2 c3 c4 c5 c6 c7 c8 c9
          go_wp2
          go_meet
          case rel => exact ⟨rfl, rfl, rfl, 3, 128, 143, by omega, by omega, by omega, rfl, rfl, rfl, HL.out⟩
        · have HL := Lib.hid (lead_bad s i hlt (by omega) (by simp [Lib.firstT, c0, c1, c2, c3, c4, c5, c6, c7, c8, c9]))
          have e1 : ¬ (s[i].toNat : Int) ≤ 244 := by omega
          clear c0 c1 c2 c3 c4 c5 c6 c7 c8 c9
          go_wp2
          go_ret
          exact ⟨ret_bool (by rw [HI.out, HL.out]), rfl⟩
      case rest =>
        obtain ⟨rfl, rfl, rfl, n, lo, hi', hn, hlo, hhi, rfl, rfl, rfl, HL⟩ := hcut
        go_wp2
        go_loop [5, 6, 8] (fun a5 a6 a8 => ∃ k lo' hi'' : Nat, 1 ≤ k ∧ k ≤ n + 1 ∧ lo' ≤ 255 ∧ hi'' ≤ 255 ∧ a5 = .int .u8 lo' ∧ a6 = .int .u8 hi'' ∧ a8 = .int .i64 k ∧ Hid (Cont s i n lo hi' k lo' hi'')) (fun _ _ a8 => 5 - (intOf a8).toNat)
        case atStart => exact ⟨1, lo, hi', by omega, by omega, hlo, hhi, rfl, rfl, rfl, rfl⟩
        case round =>
          obtain ⟨k, lo', hi'', hk1, hk2, hlo', hhi', rfl, rfl, rfl, HC⟩ := hrel
          by_cases hkn : k ≤ n
          · by_cases hend : s.size ≤ i + k
            · have H0 := Lib.hid (cont_short HC.out hkn hend)
              go_wp2
              go_ret
              exact ⟨ret_bool (by rw [HI.out, HL.out, H0.out, Bool.false_and]), rfl⟩
            · have hik : i + k < s.size := by omega
              have hx : ((i : Int) + (k : Int)).toNat = i + k := by omega
              have hbb : s[i + k].toNat ≤ 255 := by have := s[i + k].toNat_lt; omega
              have hik1 : (i : Int) + k < s.size := by omega
              by_cases b1 : s[i + k].toNat < lo'
              · have H0 := Lib.hid (cont_no HC.out hkn hik (.inl b1))
                have b1' : (s[i + k].toNat : Int) < (lo' : Int) := by omega
                clear b1 hend
                go_wp2
                go_ret
                exact ⟨ret_bool (by rw [HI.out, HL.out, H0.out, Bool.false_and]), rfl⟩
              by_cases b2 : hi'' < s[i + k].toNat
              · have H0 := Lib.hid (cont_no HC.out hkn hik (.inr b2))
                have b1' : ¬ (s[i + k].toNat : Int) < (lo' : Int) := by omega
                have b2' : (hi'' : Int) < (s[i + k].toNat : Int) := by omega
                clear b1 b2 hend
                go_wp2
                go_ret
                exact ⟨ret_bool (by rw [HI.out, HL.out, H0.out, Bool.false_and]), rfl⟩
              · have H0 := Lib.hid (cont_yes HC.out hkn hik ⟨by omega, by omega⟩)
                have b1' : ¬ (s[i + k].toNat : Int) < (lo' : Int) := by omega
                have b2' : ¬ (hi'' : Int) < (s[i + k].toNat : Int) := by omega
                clear b1 b2 hend
                go_wp2
                go_round
                case rel => exact ⟨k + 1, 128, 191, by omega, by omega, by omega, by omega, rfl, rfl, by go_num, H0.out⟩
                case measure => simp [intOf]; omega
          · obtain rfl : k = n + 1 := by omega
            have H0 := Lib.hid (cont_end HC.out)
            go_wp2
            go_round
            case rel => exact ⟨i + 1 + n, by omega, by go_num, by rw [Hid, HI.out, HL.out, H0.out, Bool.true_and]⟩
            case measure => simp [intOf]; omega
    · have H : Hid (Lib.validD s.data.toList = true) := by
        rw [Hid, HI.out, List.drop_eq_nil_of_le (by simpa using hlt)]; rfl
      go_wp2
      go_ret
      exact ⟨ret_bool (by rw [H.out]), rfl⟩
theorem rtext_any (s : ByteArray) (w : World) (hs : s.size ≤ 1000000) : Calls Tryz.prog 63 #[.string s] w fun e w' => e = .returned (.int .i64 (textW s)) ∧ w = w' := by
  have HV := Lib.hid (utf8_any s w hs)
  unfold textW
  generalize Lib.validD s.data.toList = b at *
  cases b with
  | false =>
    go_enter Tryz.func63, Tryz.ntmps63
    go_wp2_with fail
    refine HV.out.mono ?_
    rintro e w1 ⟨rfl, rfl⟩
    go_wp2
    go_ret
    exact ⟨rfl, rfl⟩
  | true =>
    by_cases hl : 4096 < s.size
    · have H : Hid ((if true = true then (if 4096 < s.size then (2 : Int) else 0) else 10) = 2) := by rw [Hid, if_pos rfl, if_pos hl]
      rw [H.out]
      go_enter Tryz.func63, Tryz.ntmps63
      go_wp2_with fail
      refine HV.out.mono ?_
      rintro e w1 ⟨rfl, rfl⟩
      go_wp2
      go_ret
      exact ⟨rfl, rfl⟩
    · have H : Hid ((if true = true then (if 4096 < s.size then (2 : Int) else 0) else 10) = 0) := by rw [Hid, if_pos rfl, if_neg hl]
      rw [H.out]
      go_enter Tryz.func63, Tryz.ntmps63
      go_wp2_with fail
      refine HV.out.mono ?_
      rintro e w1 ⟨rfl, rfl⟩
      go_wp2
      go_ret
      exact ⟨rfl, rfl⟩
end v
end Go.Proofs.YtcljplkkgpjhlaaGreatDoorR
