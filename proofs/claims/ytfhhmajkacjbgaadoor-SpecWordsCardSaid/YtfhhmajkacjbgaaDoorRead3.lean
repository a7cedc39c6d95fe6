/-
  Package utf's reader: a character that stands as it is.
-/
import Derived.Test.YtfhhmajkacjbgaaDoorRead2
namespace Go.Proofs.YtfhhmajkacjbgaaDoor
open Go.ChangeShapes Go.WideShapes Go.ChangeAt Go.RowKit
attribute [local go_sem ↓] Go.wp_at_zero Go.wp_at_succ
variable {w : World}

theorem bs_take (n : Nat) (l : List UInt8) : (bs l).extract 0 n = bs (l.take n) := by
  apply ByteArray.ext
  apply Array.toList_inj.1
  rw [ByteArray.data_extract, Array.toList_extract, bs_toList, bs_toList]
  simp
theorem strCells_bs (l : List UInt8) : Lib.strCells (bs l) = vals l := by
  rw [Lib.strCells, bs_toList]
  rfl
theorem Tabs.move {w w' : World} (h : Tabs w) (f : Fresh w w') : Tabs w' := Utf8Tabs_below h f
/-- append(.., s...) at a step of a region that draws its order. -/
theorem step_append_string {P : Program} {ops : Array Oper} {o : Oper} {a : Act} {w : World} {K : Act → World → Prop} {Q : Exit → Act → World → Prop} {E : Prop} (hgd : o.guard = none) (sl x : Operand) (t u : TypeId)
    (ho : o.op = .call { callee := .builtin .append, args := #[sl, x], argTypes := #[t, u] })
    (base : Nat) (e : TypeId) (i : TypeInfo) (ht : P.underlying t = some (.slice e)) (hu : P.underlying u = some .string) (hi : P.info? e = some i) (hz : i.zero = some (.int .u8 0))
    (hsize : i.size = 1) (hby : i.bytes = 1)
    (v : Value) (n : Nat) (xs : List Value) (hs : a.eval sl = v) (hown : w.ownsRow base e 1 v n xs) (s : ByteArray) (hx : a.eval x = .string s)
    (h63 : n + s.size ≤ maxLen) (hbytes : n + s.size ≤ 140737488355328) (hbase : base ≤ w.heap.size)
    (h : ∀ v' w', w'.ownsRow base e 1 v' (n + s.size) (xs ++ Lib.strCells s) → w.grownBy w' v.ownBlock → K (a.put o.dst v') w') :
    if Region.wanted o (yielded ops a.tmps) = true then Oper.wp P o a w K Q else E := by
  have hw : Region.wanted o (yielded ops a.tmps) = true := by simp [Region.wanted, hgd]
  rw [if_pos hw]
  obtain ⟨v', w', hr, h2, h3, h4⟩ := Lib.run_append_own_string (P := P) w base t u o.type e i ht hu hi hz hsize hby v n xs hown s h63 hbytes hbase
  unfold Oper.wp execOp
  simp only [ho, resolve, invoke, builtin, Sem.run_bind, Sem.run_pure, Result.andThen_ok, List.map_toArray, List.map_cons, List.map_nil, hs, hx, hr]
  exact h v' w' h2 h3
set_option maxRecDepth 100000 in
set_option maxHeartbeats 4000000 in
theorem char_plain (b : Nat) (c : UInt8) (cs rest : List UInt8) (v : Value) (text : List UInt8) (w : World) (hT : Tabs w) (h0 : 32 ≤ c.toNat) (h1 : c.toNat ≠ 92) (hd : (Lib.decodeGo (bs (c :: cs ++ rest))).2 = (c :: cs).length) (hv : Lib.validD (c :: cs) = true) (hcl : (c :: cs).length ≤ 4)
    (hl : text.length ≤ 100000) (h : Rdr w b (c :: cs ++ rest) v text) : Calls Tryd.prog 70 #[.pointer (some ⟨b, 0, none⟩)] w (Reads w b rest (text ++ (c :: cs)) 0) := by
  obtain ⟨i0, hi, hz0, hz1, hz2⟩ := info_parts info5
  have HR := Lib.hid h
  have HB0 := Lib.hid (lt_of_at h.box)
  have HT := Lib.hid hT
  have c0 := h.c0
  have e1 : ((c.toNat : Int) == 92) = false := by rw [beq_eq_false_iff_ne]; omega
  have e2 : ¬ (c.toNat : Int) < 32 := by omega
  obtain ⟨p1, p2, _, p4⟩ := (show Cons (bs (c :: cs ++ rest)) c (bs (cs ++ rest)) from bs_cons c (cs ++ rest))
  have q1 : (bs (c :: cs ++ rest)).extract 0 (c :: cs).length = bs (c :: cs) := by rw [bs_take, List.take_left]
  have q2 : (bs (c :: cs ++ rest)).extract (c :: cs).length (bs (c :: cs ++ rest)).size = bs rest := by rw [bs_drop, List.drop_left]
  have q3 : (((c :: cs).length : Nat) : Int) ≤ ((bs (c :: cs ++ rest)).size : Int) := by rw [bs_size, List.length_append]; omega
  have q4 : 0 < (c :: cs).length := by simp
  have HV : Hid (Lib.validD (bs (c :: cs)).data.toList = true) := by rw [Hid, bs_toList]; exact hv
  have HQ : Hid ((bs (c :: cs)).size = (c :: cs).length) := bs_size _
  have HS : Hid (Lib.strCells (bs (c :: cs)) = vals (c :: cs)) := strCells_bs _
  have HDE : Hid (∀ W, Tabs W → Calls Tryd.prog 84 #[.string (bs (c :: cs ++ rest))] W fun e w' => (∃ x : Int, e = .returned (.tuple #[.int .i32 x, .int .i64 (((c :: cs).length : Nat) : Int)])) ∧ Fresh W w') := fun W hW => by
    refine (decode_any _ W hW).mono ?_
    rintro e w' ⟨he, hf⟩
    rw [hd] at he
    exact ⟨⟨_, he⟩, hf⟩
  clear h hT hd hv h0 h1
  generalize hn : (c :: cs).length = n at *
  generalize hR : bs (c :: cs ++ rest) = R at *
  generalize hq : bs (c :: cs) = q at *
  generalize hr1 : bs rest = r1 at *
  have HN := Lib.hid hn
  have HRE := Lib.hid hR
  have HR1 := Lib.hid hr1
  clear hn hR hq hr1
  go_enter Tryd.func70, Tryd.ntmps70
  go_wp2_with fail
  refine (HDE.out _ HT.out).mono ?_
  rintro e w1 ⟨⟨x, rfl⟩, hf1⟩
  have hr := HR.out.fresh hf1
  have d0 := hr.c0
  rw [HRE.out] at d0
  have d1 := hr.c1
  have hlt := lt_of_at hr.box
  have HF1 := Lib.hid hf1
  have HRR := Lib.hid hr
  clear hf1 hr c0
  go_wp2_with fail
  refine (isValid_any q _ (by rw [HQ.out]; omega) (HT.out.move HF1.out)).mono ?_
  rintro e w2 ⟨rfl, hf2⟩
  rw [HV.out]
  have hr := HRR.out.fresh hf2
  have d0' := hr.c0
  rw [HRE.out] at d0'
  have d1' := hr.c1
  have hlt' := lt_of_at hr.box
  have HF2 := Lib.hid (HF1.out.trans hf2)
  have HRR2 := Lib.hid hr
  have k1 : text.length + q.size ≤ maxLen := by rw [HQ.out]; unfold maxLen; omega
  have k2 : text.length + q.size ≤ 140737488355328 := by rw [HQ.out]; omega
  have K1 := Lib.hid k1
  have K4 : Hid (0 < text.length + q.size) := by rw [Hid, HQ.out]; omega
  have K2 := Lib.hid k2
  have K3 : Hid (b + 1 ≤ w2.heap.size) := hlt'
  clear hf2 hr d0 d1 hlt HRR k1 k2
  go_wp2_with fail
  go_region_law ((refine step_append_string (by rfl) _ _ 101 9 (by rfl) (b + 1) 5 i0 Tryd.underlying101 Tryd.underlying9 hi hz0 hz1 hz2 v text.length (vals text) (by rfl) HRR2.out.buf q (by rfl) K1.out K2.out K3.out ?_; intro v3 w3 hown hg; obtain ⟨g3, cap3, rfl, _⟩ := World.ownsRow.form hown K4.out; have HP := Lib.hid (HRR2.out.push (m := c :: cs) (by rw [HQ.out, HS.out] at hown; exact Buf.more hown HN.out) ⟨hg.os, hg.tape, hg.output, hg.size, hg.block⟩); clear hown hg; have g1 := HP.out.c1; have g2 := HP.out.f1; have g4 := HP.out.lt))
  all_goals
    have s0 := HP.out.c0
    rw [HRE.out] at s0
    have s1 := HP.out.f0
    have HS2 := Lib.hid (HP.out.rdr.set0 (r2 := rest))
    rw [HR1.out] at HS2
    go_wp2
    go_ret
    rw [HQ.out]
    exact ⟨rfl, ⟨_, HS2.out⟩, ((Below.mono HF2.out (Nat.le_of_lt HB0.out)).trans HP.out.below).trans Rdr.below0⟩
end Go.Proofs.YtfhhmajkacjbgaaDoor
