/-
  What Quote writes is what Unquote reads, piece by piece; the document's example.
  The layer of Awake that jlex's law has.
  Package value: Same.
  Package value: Same, of two that are alike outside.
-/
import Derived.Test.YthhdadfnkdjmkaaGreatDoorCat08
import Derived.Test.YthhdadfnkdjmkaaGreatDoorCat23
import Derived.Test.YthhdadfnkdjmkaaGreatDoorCat02
import Derived.Test.YthhdadfnkdjmkaaGreatDoorCat15
import Derived.RegionTactic
import Derived.Deep.RegionHeld3
import Derived.Deep.RegionHeldLaw
import Derived.Deep.DrawnRows
namespace Go.Proofs.YthhdadfnkdjmkaaGreatDoor
open Go.ChangeShapes Go.WideShapes Go.ChangeAt Go.RowKit
attribute [local go_sem ↓] Go.wp_at_zero Go.wp_at_succ
variable {w : World}

theorem item_plain (c : UInt8) (cs : List UInt8) (h0 : 32 ≤ c.toNat) (h34 : c.toNat ≠ 34) (h92 : c.toNat ≠ 92) (h : Tail c cs) : Item (c :: cs) (c :: cs) :=
  ⟨⟨c, cs, rfl, h34⟩, fun b rest v text w hT hl hr => char_plain b c cs rest v text w hT h0 h92 (h.dec rest) h.valid (by have := h.len; simp; omega) hl hr⟩
theorem item_esc {y : UInt8} {m : List UInt8} (hE : ∀ (b : Nat) (rest : List UInt8) (v : Value) (text : List UInt8) (w : World), text.length ≤ 1000000 → Rdr w b (y :: rest) v text → Calls Tryz.prog 127 #[.pointer (some ⟨b, 0, none⟩)] w (Reads w b rest (text ++ m) 0)) : Item [92, y] m :=
  ⟨⟨92, [y], rfl, by decide⟩, fun b rest v text w _ hl hr => char_esc b (y :: rest) rest v text (text ++ m) w hr (fun W h => hE b rest v text W (by omega) h)⟩
theorem item_u {ds m : List UInt8} (h4 : ds.length = 4) (hd : ∀ c ∈ ds, isDig c) (h0 : 0 ≤ valD ds) (h1 : valD ds < 55296) (hm : Lib.runeCells (valD ds) = vals m) (hm0 : 0 < m.length) : Item (92 :: 117 :: ds) m :=
  ⟨⟨92, 117 :: ds, rfl, by decide⟩, fun b rest v text w _ hl hr => char_esc b (117 :: (ds ++ rest)) rest v text (text ++ m) w hr (fun W h => escape_u b (ds ++ rest) rest v text (text ++ m) W h (fun W2 h2 => byNumber_any b ds rest v text m W2 h4 hd h0 h1 hm hm0 (by omega) h2))⟩
theorem hexB_dig (n : Nat) (h : n < 16) : isDig (hexB n) ∧ dv (hexB n) = n := by
  by_cases hc : n < 10
  · have := hexB_lo n hc
    refine ⟨.inl (by omega), ?_⟩
    rw [dv, if_pos (by omega)]; omega
  · have := hexB_hi n (by omega) h
    refine ⟨.inr (by omega), ?_⟩
    rw [dv, if_neg (by omega)]; omega
theorem tail_nil (c : UInt8) (h : c.toNat < 128) : Tail c [] :=
  ⟨by simp, by rw [Lib.validD_cons _ _ h]; rfl, by simp, fun rest => by
    rw [dec_bs _ (by simp)]
    show (Lib.decodeN _ c.toNat _ _ _).2 = 1
    simp [Lib.decodeN, h]⟩
theorem item_q (c : UInt8) (h : c.toNat < 128) : Item (qB c) [c] := by
  by_cases h34 : c.toNat = 34
  · obtain rfl := c_of h34
    exact item_esc escape_34
  by_cases h92 : c.toNat = 92
  · obtain rfl := c_of h92
    exact item_esc escape_92
  by_cases h10 : c.toNat = 10
  · obtain rfl := c_of h10
    exact item_esc escape_110
  by_cases h13 : c.toNat = 13
  · obtain rfl := c_of h13
    exact item_esc escape_114
  by_cases h9 : c.toNat = 9
  · obtain rfl := c_of h9
    exact item_esc escape_116
  by_cases h8 : c.toNat = 8
  · obtain rfl := c_of h8
    exact item_esc escape_98
  by_cases h12 : c.toNat = 12
  · obtain rfl := c_of h12
    exact item_esc escape_102
  have ne : ∀ n : Nat, c.toNat ≠ n → n < 256 → ¬ c = UInt8.ofNat n := fun n h hn e => h (by rw [e, UInt8.toNat_ofNat']; omega)
  have e : qB c = if c.toNat < 32 then [92, 117, 48, 48, hexB (c.toNat / 16), hexB (c.toNat % 16)] else [c] := by
    rw [qB, if_neg (by rintro (h | h); exact ne 34 h34 (by omega) h; exact ne 92 h92 (by omega) h), if_neg (show ¬ c = 10 from ne 10 h10 (by omega)), if_neg (show ¬ c = 13 from ne 13 h13 (by omega)), if_neg (show ¬ c = 9 from ne 9 h9 (by omega)), if_neg (show ¬ c = 8 from ne 8 h8 (by omega)), if_neg (show ¬ c = 12 from ne 12 h12 (by omega))]
  rw [e]
  by_cases h32 : c.toNat < 32
  · rw [if_pos h32]
    have d1 := hexB_dig (c.toNat / 16) (by omega)
    have d2 := hexB_dig (c.toNat % 16) (by omega)
    have d0 : isDig 48 ∧ dv 48 = 0 := hexB_dig 0 (by omega)
    have hv : valD [48, 48, hexB (c.toNat / 16), hexB (c.toNat % 16)] = (c.toNat : Int) := by
      simp only [valD, List.foldl_cons, List.foldl_nil, d0.2, d1.2, d2.2]
      omega
    refine item_u rfl ?_ (by rw [hv]; omega) (by rw [hv]; omega) ?_ (by simp)
    · intro x hx
      simp only [List.mem_cons, List.not_mem_nil, or_false] at hx
      rcases hx with rfl | rfl | rfl | rfl
      · exact d0.1
      · exact d0.1
      · exact d1.1
      · exact d2.1
    · rw [hv]
      simp [Lib.runeCells, Lib.encodeRuneZ_one (show 0 ≤ (c.toNat : Int) by omega) (show (c.toNat : Int) ≤ 127 by omega), vals]
  · rw [if_neg h32]
    exact item_plain c [] (by omega) h34 h92 (tail_nil c h)
theorem qL_high : ∀ cs : List UInt8, (∀ b ∈ cs, 128 ≤ b.toNat) → qL cs = cs
  | [], _ => rfl
  | c :: cs, h => by
    have hc := h c (by simp)
    have n : ∀ d : UInt8, d.toNat < 128 → ¬ c = d := fun d hd e => by subst e; omega
    have e : qB c = [c] := by
      rw [qB, if_neg (by rintro (h | h); exact n 34 (by decide) h; exact n 92 (by decide) h), if_neg (n 10 (by decide)), if_neg (n 13 (by decide)), if_neg (n 9 (by decide)), if_neg (n 8 (by decide)), if_neg (n 12 (by decide)), if_neg (by omega)]
    have ih := qL_high cs (fun b hb => h b (by simp [hb]))
    show qB c ++ qL cs = c :: cs
    rw [e, ih]; rfl
theorem qL_app (l m : List UInt8) : qL (l ++ m) = qL l ++ qL m := by simp [qL]
/-- What is quoted is read as it was. -/
theorem un_q : ∀ (n : Nat) (l : List UInt8), l.length ≤ n → Lib.validD l = true → Un (qL l) l
  | _, [], _, _ => .nil
  | 0, _ :: _, h, _ => by simp at h
  | n + 1, c :: l, h, hv => by
    by_cases hc : c.toNat < 128
    · rw [Lib.validD_cons _ _ hc] at hv
      exact .step (qB c) [c] (qL l) l (item_q c hc) (un_q n l (by simp at h; omega) hv)
    · obtain ⟨cs, l2, rfl, ht, hv2⟩ := lead_split c l (by omega) hv
      have e : qL (c :: (cs ++ l2)) = (c :: cs) ++ qL l2 := by
        rw [← List.cons_append, qL_app, qL_high (c :: cs) (fun b hb => by
          rcases List.mem_cons.1 hb with rfl | hb
          · omega
          · exact ht.high b hb)]
      rw [e]
      exact .step (c :: cs) (c :: cs) (qL l2) l2 (item_plain c cs (by omega) (by omega) (by omega) ht) (un_q n l2 (by simp at h; omega) hv2)
theorem un_awake : Un [92, 117, 48, 48, 101, 57] [195, 169] := by
  have hv : valD [48, 48, 101, 57] = 233 := by decide
  exact .step [92, 117, 48, 48, 101, 57] [195, 169] [] [] (item_u rfl (by
    intro x hx
    simp only [List.mem_cons, List.not_mem_nil, or_false] at hx
    rcases hx with rfl | rfl | rfl | rfl <;> (unfold isDig; decide)) (by rw [hv]; decide) (by rw [hv]; decide) (by rw [hv]; rfl) (by decide)) .nil
/-- The document's example. -/
theorem awake_any (w : World) (hT : Tabs w) : Calls Tryz.prog 45 #[] w fun e w' => e = .returned (.bool true) ∧ Fresh w w' := by
  have HU : Hid (Calls Tryz.prog 74 #[.string ⟨#[34, 92, 117, 48, 48, 101, 57, 34]⟩] w fun e w' => e = .returned (.tuple #[.string ⟨#[195, 169]⟩, .int .i64 8, .int .i64 0]) ∧ Fresh w w') :=
    unquote_any [92, 117, 48, 48, 101, 57] [195, 169] [] w un_awake (by decide) (by decide) hT
  have HQ : Hid (∀ W, Calls Tryz.prog 75 #[.string ⟨#[97, 34, 10]⟩] W fun e w' => e = .returned (.string ⟨#[34, 97, 92, 34, 92, 110, 34]⟩) ∧ Fresh W w') := fun W => quote_any ⟨#[97, 34, 10]⟩ W (by decide)
  clear hT
  go_enter Tryz.func45, Tryz.ntmps45
  go_wp2_with fail
  refine HU.out.mono ?_
  rintro e w1 ⟨rfl, hf1⟩
  have HF1 := Lib.hid hf1
  clear hf1
  go_wp2_with fail
  refine (HQ.out _).mono ?_
  rintro e w2 ⟨rfl, hf2⟩
  have HF2 := Lib.hid (HF1.out.trans hf2)
  clear hf2
  go_wp2
  go_ret
  exact ⟨rfl, HF2.out⟩
end Go.Proofs.YthhdadfnkdjmkaaGreatDoor
namespace Go.Proofs.YthhdadfnkdjmkaaGreatDoor.y
open Go.ChangeShapes Go.WideShapes Go.ChangeAt Go.RowKit
attribute [local go_sem ↓] Go.wp_at_zero Go.wp_at_succ
variable {w : World}
theorem lex_one : lexA 4 [91, 49, 93] 0 [] = ([⟨2, [], 0, 0⟩, ⟨10, [], 1, 1⟩, ⟨3, [], 0, 2⟩, ⟨11, [], 0, 3⟩], 0, 0) := by kernel_rfl
set_option maxRecDepth 100000 in
set_option maxHeartbeats 1000000 in
theorem jawake_any (w : World) (hT : Tabs w) (hr : RangeVar w) : Calls Tryz.prog 19 #[] w fun e w' => e = .returned (.bool true) ∧ Fresh w w' := by
  have HL := Lib.hid (lex_any [91, 49, 93] w (by decide) hT hr)
  have hx : lexA ([91, 49, 93] : List UInt8).length.succ [91, 49, 93] 0 [] = ([⟨2, [], 0, 0⟩, ⟨10, [], 1, 1⟩, ⟨3, [], 0, 2⟩, ⟨11, [], 0, 3⟩], 0, 0) := lex_one
  have HX := Lib.hid hx
  have HT := Lib.hid hT
  have HL2 : Hid (Calls Tryz.prog 44 #[.string ⟨#[91, 49, 93]⟩] w (LexIs w ([⟨2, [], 0, 0⟩, ⟨10, [], 1, 1⟩, ⟨3, [], 0, 2⟩, ⟨11, [], 0, 3⟩], 0, 0))) := by
    rw [Hid, ← HX.out]
    exact HL.out
  clear HL hx HX hT hr
  go_enter Tryz.func19, Tryz.ntmps19
  go_wp2_with fail
  refine HL2.out.mono ?_
  rintro e w1 ⟨he, hf1⟩
  rw [if_pos rfl] at he
  obtain ⟨B, g, cap, hB, rfl, hb⟩ := he
  have HF1 := Lib.hid hf1
  have HB := Lib.hid hb
  clear hf1 hb hB
  go_wp2_with fail
  refine (awake_any _ (HT.out.move HF1.out)).mono ?_
  rintro e w2 ⟨rfl, hf2⟩
  have HF2 := Lib.hid (HF1.out.trans hf2)
  have hb := HB.out.fresh hf2
  have c4 : w2.cell? ⟨g, 4, none⟩ = some (.int .i64 10) := World.ownsRow.cells hb rfl 4 _ rfl
  have c5 : w2.cell? ⟨g, 5, none⟩ = some (.string ⟨#[]⟩) := World.ownsRow.cells hb rfl 5 _ rfl
  have c6 : w2.cell? ⟨g, 6, none⟩ = some (.int .i64 1) := World.ownsRow.cells hb rfl 6 _ rfl
  have c7 : w2.cell? ⟨g, 7, none⟩ = some (.int .i64 1) := World.ownsRow.cells hb rfl 7 _ rfl
  have c12 : w2.cell? ⟨g, 12, none⟩ = some (.int .i64 11) := World.ownsRow.cells hb rfl 12 _ rfl
  have c13 : w2.cell? ⟨g, 13, none⟩ = some (.string ⟨#[]⟩) := World.ownsRow.cells hb rfl 13 _ rfl
  have c14 : w2.cell? ⟨g, 14, none⟩ = some (.int .i64 0) := World.ownsRow.cells hb rfl 14 _ rfl
  have c15 : w2.cell? ⟨g, 15, none⟩ = some (.int .i64 3) := World.ownsRow.cells hb rfl 15 _ rfl
  clear hf2 hb
  go_wp2
  go_ret
  exact ⟨rfl, HF2.out⟩
end Go.Proofs.YthhdadfnkdjmkaaGreatDoor.y
namespace Go.Proofs.YthhdadfnkdjmkaaGreatDoor.v
open Go.ChangeShapes Go.WideShapes Go.ChangeAt Go.RowKit
attribute [local go_sem ↓] Go.wp_at_zero Go.wp_at_succ
variable {w : World}

theorem info68 : (Tryz.prog.info? 74).map (fun i => (i.zero, i.size, i.bytes)) = some (some (.agg #[.int .i64 0, .bool false, .int .i64 0, .string ⟨#[]⟩, .slice none 0 0, .slice none 0 0, .int .i64 0, .bool false, .int .i64 0, .string ⟨#[]⟩, .slice none 0 0, .slice none 0 0]), 12, 176) := by kernel_rfl
def dcellsOf (p : M × M) : List Value := p.1.cells ++ p.2.cells
def dcells (l : List (M × M)) : List Value := l.flatMap dcellsOf
theorem dcellsOf_length (p : M × M) : (dcellsOf p).length = 12 := by simp [dcellsOf, cells_length]
theorem dcells_snoc (l : List (M × M)) (p : M × M) : dcells (l ++ [p]) = dcells l ++ dcellsOf p := flat_snoc _ _ _
theorem dcells_length (l : List (M × M)) : (dcells l).length = l.length * 12 := flat_length _ _ dcellsOf_length l
theorem dcells_one (p : M × M) : ∀ u ∈ dcellsOf p, u.oneCell' = true := by
  intro u hu
  unfold dcellsOf at hu
  rw [List.mem_append] at hu
  rcases hu with hu | hu
  · exact cells_one _ u hu
  · exact cells_one _ u hu
def pst2 (l : List (M × M)) : List (V × V) := l.map fun p => (p.1.plain, p.2.plain)
theorem pst2_append (l m : List (M × M)) : pst2 (l ++ m) = pst2 l ++ pst2 m := by simp [pst2]
def pushM2 (l m : List M) : List (M × M) := (l.zip m).filter fun p => p.1.plain.holds
theorem pst2_pushM2 : ∀ (l m : List M), pst2 (pushM2 l m) = pushed2 (l.map M.plain) (m.map M.plain)
  | [], _ => rfl
  | _ :: _, [] => rfl
  | x :: l, y :: m => by
    have ih := pst2_pushM2 l m
    unfold pst2 pushM2 pushed2 at *
    simp only [List.map_cons, List.zip_cons_cons, List.filter_cons]
    split <;> simp [ih]
theorem pushM2_take (l m : List M) (k : Nat) (hl : k < l.length) (hm : k < m.length) : pushM2 (l.take (k + 1)) (m.take (k + 1)) = pushM2 (l.take k) (m.take k) ++ if l[k].plain.holds = true then [(l[k], m[k])] else [] := by
  unfold pushM2
  rw [List.take_succ_eq_append_getElem hl, List.take_succ_eq_append_getElem hm, List.zip_append (by simp; omega), List.filter_append]
  cases h : l[k].plain.holds <;> simp [h]
theorem pushM2_mem {l m : List M} {p : M × M} (h : p ∈ pushM2 l m) : p.1 ∈ l ∧ p.2 ∈ m := by
  unfold pushM2 at h
  rw [List.mem_filter] at h
  obtain ⟨a, b⟩ := p
  exact List.of_mem_zip h.1
structure Left2 (w wr : World) (a : Option Addr) (c : Nat) (st : List (M × M)) : Prop where
  own : wr.ownsRow w.heap.size 74 12 (.slice a st.length c) st.length (dcells st)
  fresh : Fresh w wr
theorem Left2.move {w wr w' : World} {a : Option Addr} {c : Nat} {st : List (M × M)} (h : Left2 w wr a c st) (f : Fresh wr w') : Left2 w w' a c st := ⟨owns_move h.own f, h.fresh.trans f⟩
structure Todo2 (w : World) (R : Bool) (st : List (M × M)) : Prop where
  all : ∀ p ∈ st, p.1.At w ∧ p.2.At w
  res : allS (pst2 st) = R
theorem Todo2.step {w : World} {R : Bool} {st : List (M × M)} {x y : M} (h : Todo2 w R (st ++ [(x, y)])) (ha : alikeL (x.inside.map M.plain) (y.inside.map M.plain) = true) : Todo2 w R (st ++ pushM2 x.inside y.inside) := by
  obtain ⟨h1, h2⟩ := h.all (x, y) (by simp)
  refine ⟨fun p hp => ?_, ?_⟩
  · rcases List.mem_append.1 hp with hp | hp
    · exact h.all p (by simp [hp])
    · obtain ⟨a, b⟩ := pushM2_mem hp
      exact ⟨h1.inside _ a, h2.inside _ b⟩
  · rw [← h.res, pst2_append, pst2_append, pst2_pushM2, ← plain_inside, ← plain_inside]
    rw [← plain_inside, ← plain_inside] at ha
    exact (allS_step ha).symm
theorem Todo2.parted {w : World} {R : Bool} {st : List (M × M)} {x y : M} (h : Todo2 w R (st ++ [(x, y)])) (ha : alikeL (x.inside.map M.plain) (y.inside.map M.plain) = false) : R = false := by
  rw [← h.res, pst2_append]
  rw [← plain_inside, ← plain_inside] at ha
  exact allS_parted ha
theorem Left2.last {w wr : World} {a : Option Addr} {c : Nat} {st : List (M × M)} {x y : M} (h : Left2 w wr a c (st ++ [(x, y)])) :
    ∃ g, a = some ⟨g, 0, none⟩ ∧ w.heap.size ≤ g ∧ st.length + 1 ≤ c ∧ x.lies wr g (st.length * 12) ∧ y.lies wr g (st.length * 12 + 6) ∧ Left2 w wr a c st := by
  have ho := h.own
  rw [dcells_snoc, List.length_append, List.length_singleton] at ho
  have hrow := RowAt.owns ho
  have hpop := owns_pop ho (dcellsOf_length _)
  rcases ho.2 with ⟨_, e⟩ | ⟨g, cap, cur, e, hb, _, hnc, _⟩
  · omega
  · cases e
    rcases hrow with ⟨e, _⟩ | ⟨g', e, hrow⟩
    · cases e
    · cases e
      have hg : ∀ j v, (dcellsOf (x, y))[j]? = some v → wr.cell? ⟨g, st.length * 12 + j, none⟩ = some v := fun j v hj => hrow _ _ (by
        rw [List.getElem?_append_right (by rw [dcells_length]; omega), dcells_length, Nat.add_sub_cancel_left]; exact hj)
      refine ⟨g, rfl, hb, hnc, M.lies.of _ fun j v hj => hg j v ?_, M.lies.of _ fun j v hj => ?_, hpop, h.fresh⟩
      · unfold dcellsOf
        rw [List.getElem?_append_left (List.getElem?_eq_some_iff.1 hj).1]; exact hj
      · have := hg (6 + j) v (by
          unfold dcellsOf
          rw [List.getElem?_append_right (by rw [cells_length]; omega), cells_length, Nat.add_sub_cancel_left]; exact hj)
        rw [Nat.add_assoc]; exact this
theorem left2_start (x y : M) (w W : World) (b : Nat) (hb : W.heap[b]? = some (.cells (x.cells ++ y.cells).toArray 74 (0, 0))) (hle : w.heap.size ≤ b) (hf : Fresh w W) : Left2 w W (some ⟨b, 0, none⟩) 1 [(x, y)] :=
  ⟨by
    have := owns_built (B := w.heap.size) (k := 12) (n := 1) hb hle (by simp [cells_length]) (by decide)
    simpa [dcells, dcellsOf] using this, hf⟩
theorem after_push2 {w W w5 : World} {a' ia ib : Option Addr} {c' q g' cap' : Nat} {ST : List (M × M)} {p : M × M} {ins ims : List M} (o : Obj)
    (hq : q = ST.length) (hL : Left2 w W a' c' ST) (hR : RowAt W ia (mcells ins)) (hR2 : RowAt W ib (mcells ims)) (hne : ins ≠ []) (hne2 : ims ≠ []) (hA : Apart a' ia ins) (hA2 : Apart a' ib ims)
    (hown : w5.ownsRow w.heap.size 74 12 (.slice (some ⟨g', 0, none⟩) (q + 1) cap') (q + 1) (dcells ST ++ dcellsOf p)) (hgrow : (W.alloc o).grownBy w5 (Value.slice a' q c').ownBlock) (hat : (Value.slice a' q c').ownBlock = some g' ∨ g' = W.heap.size + 1) :
    Left2 w w5 (some ⟨g', 0, none⟩) cap' (ST ++ [p]) ∧ RowAt w5 ia (mcells ins) ∧ RowAt w5 ib (mcells ims) ∧ Apart (some ⟨g', 0, none⟩) ia ins ∧ Apart (some ⟨g', 0, none⟩) ib ims := by
  subst hq
  have hb : ∀ k, (Value.slice a' ST.length c').ownBlock = some k → ∃ ad : Addr, a' = some ad ∧ ad.block = k := fun k h => by
    cases a' with
    | none => cases h
    | some ad => exact ⟨ad, rfl, by simpa [Value.ownBlock] using h⟩
  have hc : ∀ {l : List M}, l ≠ [] → mcells l ≠ [] := fun hne e => hne (by
    have := congrArg List.length e
    rw [mcells_length] at this
    simp only [List.length_nil] at this
    exact List.eq_nil_of_length_eq_zero (by omega))
  have row : ∀ {i : Option Addr} {l : List M}, l ≠ [] → RowAt W i (mcells l) → Apart a' i l → RowAt w5 i (mcells l) ∧ Apart (some ⟨g', 0, none⟩) i l := fun {i l} hne hR hA => by
    refine ⟨(hR.move ((Fresh.refl W).alloc o)).grown hgrow (fun ad e h => ?_), fun _ x y hx hy => ?_⟩
    · obtain ⟨x, hx, hxb⟩ := hb _ h.symm
      exact hA hne x ad hx e hxb
    · cases hx
      rcases hat with h | h
      · obtain ⟨x, hx, hxb⟩ := hb _ h
        have := hA hne x y hx hy
        show g' ≠ y.block
        omega
      · have := hR.lt (hc hne) y hy
        show g' ≠ y.block
        omega
  obtain ⟨r1, r2⟩ := row hne hR hA
  obtain ⟨r3, r4⟩ := row hne2 hR2 hA2
  exact ⟨⟨by rw [dcells_snoc, List.length_append, List.length_singleton]; exact hown, own_grown (Nat.le_refl _) (World.ownsRow.alloc hL.own o) (hL.fresh.alloc o) hgrow⟩, r1, r3, r2, r4⟩
theorem box12 {w : World} {b : Nat} {c0 c1 c2 c3 c4 c5 d0 d1 d2 d3 d4 d5 : Value} {T : TypeId} {z : Nat × Nat} (h : w.heap[b]? = some (.cells #[c0, c1, c2, c3, c4, c5, d0, d1, d2, d3, d4, d5] T z)) :
    (w.cell? ⟨b, 0, none⟩ = some c0 ∧ w.cell? ⟨b, 1, none⟩ = some c1 ∧ w.cell? ⟨b, 2, none⟩ = some c2 ∧ w.cell? ⟨b, 3, none⟩ = some c3 ∧ w.cell? ⟨b, 4, none⟩ = some c4 ∧ w.cell? ⟨b, 5, none⟩ = some c5) ∧
    (w.cell? ⟨b, 6, none⟩ = some d0 ∧ w.cell? ⟨b, 7, none⟩ = some d1 ∧ w.cell? ⟨b, 8, none⟩ = some d2 ∧ w.cell? ⟨b, 9, none⟩ = some d3 ∧ w.cell? ⟨b, 10, none⟩ = some d4 ∧ w.cell? ⟨b, 11, none⟩ = some d5) :=
  ⟨⟨cell_of_at h rfl, cell_of_at h rfl, cell_of_at h rfl, cell_of_at h rfl, cell_of_at h rfl, cell_of_at h rfl⟩, cell_of_at h rfl, cell_of_at h rfl, cell_of_at h rfl, cell_of_at h rfl, cell_of_at h rfl, cell_of_at h rfl⟩
theorem same_no (m m' : M) (w : World) (hm : m.At w) (hm' : m'.At w) (ha : m.plain.alike m'.plain = false) : Calls Tryz.prog 15 #[m.val, m'.val] w fun e w' => e = .returned (.bool false) ∧ Fresh w w' := by
  have HQ : Hid (∀ W, Fresh w W → Calls Tryz.prog 38 #[m.val, m'.val] W fun e w' => e = .returned (.bool false) ∧ Fresh W w') := fun W hf => by rw [← ha]; exact alike_any m m' W (hm.move hf) (hm'.move hf)
  clear hm hm' ha
  obtain ⟨k, f, n, s, la, lc, l, ka, kc, ks⟩ := m
  obtain ⟨k', f', n', s', la', lc', l', ka', kc', ks'⟩ := m'
  dsimp only [M.val] at *
  generalize l.length = ln at *
  generalize ks.length = kn at *
  generalize l'.length = ln' at *
  generalize ks'.length = kn' at *
  go_enter Tryz.func15, Tryz.ntmps15
  go_wp2_with fail
  refine (HQ.out _ (((Fresh.refl w).alloc _).alloc _)).mono ?_
  rintro e w1 ⟨rfl, hf⟩
  go_wp2
  go_ret
  exact ⟨rfl, (((Fresh.refl w).alloc _).alloc _).trans hf⟩
end Go.Proofs.YthhdadfnkdjmkaaGreatDoor.v
namespace Go.Proofs.YthhdadfnkdjmkaaGreatDoor.v
open Go.ChangeShapes Go.WideShapes Go.ChangeAt Go.RowKit
attribute [local go_sem ↓] Go.wp_at_zero Go.wp_at_succ
variable {w : World}

set_option maxRecDepth 100000 in
set_option maxHeartbeats 4000000 in
theorem same_yes (m m' : M) (w : World) (hm : m.At w) (hm' : m'.At w) (hs : m.plain.size ≤ 1000000) (ha : m.plain.alike m'.plain = true) : Calls Tryz.prog 15 #[m.val, m'.val] w fun e w' => e = .returned (.bool (sin m.plain m'.plain)) ∧ Fresh w w' := by
  obtain ⟨i0, hi, hz0, hz1, hz2⟩ := info_parts info68
  have HQ : Hid (∀ W, Fresh w W → Calls Tryz.prog 38 #[m.val, m'.val] W fun e w' => e = .returned (.bool true) ∧ Fresh W w') := fun W hf => by rw [← ha]; exact alike_any m m' W (hm.move hf) (hm'.move hf)
  have HR : Hid (Todo2 w (sin m.plain m'.plain) [(m, m')]) := ⟨fun p hp => by rw [List.mem_singleton] at hp; subst hp; exact ⟨hm, hm'⟩, by simp [pst2, allS]⟩
  have HZ : Hid (szs2 (pst2 [(m, m')]) ≤ 1000000) := by simp [Hid, pst2, szs2]; exact hs
  have HL := Lib.hid (left2_start m m' w)
  generalize sin m.plain m'.plain = R at *
  clear hm hm' ha hs
  obtain ⟨k, f, n, s, la, lc, l, ka, kc, ks⟩ := m
  obtain ⟨k', f', n', s', la', lc', l', ka', kc', ks'⟩ := m'
  dsimp only [M.val, M.cells] at *
  generalize hM : M.mk k f n s la lc l ka kc ks = m at *
  generalize hM' : M.mk k' f' n' s' la' lc' l' ka' kc' ks' = m' at *
  clear hM hM'
  generalize l.length = ln at *
  generalize ks.length = kn at *
  generalize l'.length = ln' at *
  generalize ks'.length = kn' at *
  go_enter Tryz.func15, Tryz.ntmps15
  go_wp2_with fail
  refine (HQ.out _ (((Fresh.refl w).alloc _).alloc _)).mono ?_
  rintro e w1 ⟨rfl, hf⟩
  obtain ⟨b0, b1, b2, b3, b4, b5⟩ := box6 (hf.at (at_alloc (at_new w _)))
  obtain ⟨c0, c1, c2, c3, c4, c5⟩ := box6 (b := w.heap.size + 1) (hf.at (by have := at_new (w.alloc (.cells #[.int .i64 k, .bool f, .int .i64 n, .string s, .slice la ln lc, .slice ka kn kc] 27)) (.cells #[.int .i64 k', .bool f', .int .i64 n', .string s', .slice la' ln' lc', .slice ka' kn' kc'] 27); rw [World.size_alloc] at this; exact this))
  have HF := Lib.hid ((((Fresh.refl w).alloc _).alloc _).trans hf)
  have hz : w.heap.size < w1.heap.size := World.block_lt_of_cell? w1 _ b0
  clear hf
  go_wp2
  have HL1 : Hid (Left2 w _ _ _ _) := HL.out _ w1.heap.size (at_new w1 _) (Nat.le_of_lt hz) (HF.out.alloc _)
  clear HL b0 b1 b2 b3 b4 b5 c0 c1 c2 c3 c4 c5
  go_loopg [5] (szs2 (pst2 [(m, m')])) (fun gg a5 wr => ∃ (c q : Nat) (a : Option Addr) (st : List (M × M)), a5 = .slice a q c ∧ Hid (q = st.length) ∧ Hid (szs2 (pst2 st) ≤ gg) ∧ Hid (gg ≤ 1000000) ∧ Hid (Left2 w wr a c st) ∧ Hid (Todo2 w R st))
  case atStart => exact ⟨1, 1, _, [(m, m')], rfl, rfl, Nat.le_refl _, HZ, HL1, HR⟩
  case round =>
    obtain ⟨c, q, a, st, rfl, HN, HG, HG2, HLe, HT⟩ := hrel
    obtain ⟨wo, rfl⟩ : ∃ wo : World, wo = wr := ⟨_, rfl⟩
    clear HL1 HR HZ
    rcases List.eq_nil_or_concat st with rfl | ⟨st0, ⟨x, y⟩, e⟩
    · have hd := HT.out.res
      simp only [pst2, List.map_nil, allS, List.all_nil] at hd
      have HD := Lib.hid hd
      obtain rfl : q = 0 := HN.out
      clear hd
      go_wp2
      go_ret
      exact ⟨ret_bool (by rw [← HD.out]), HLe.out.fresh⟩
    · rw [List.concat_eq_append] at e
      subst e
      obtain ⟨g, ea, hgB, hpc, hlx, hly, hleft⟩ := HLe.out.last
      obtain rfl : q = st0.length + 1 := by rw [HN.out]; simp
      subst ea
      have hxy := HT.out.all (x, y) (by simp)
      have HTS := Lib.hid HT.out.step
      have HTP := Lib.hid HT.out.parted
      have hfr := hleft.fresh
      have HIX : Hid (∀ W, Fresh w W → Calls Tryz.prog 39 #[x.val] W (InsideIs x W)) := fun W hf => inside_any x W (hxy.1.move hf)
      have HIY : Hid (∀ W, Fresh w W → Calls Tryz.prog 39 #[y.val] W (InsideIs y W)) := fun W hf => inside_any y W (hxy.2.move hf)
      have HAX : Hid (x.At w) := hxy.1
      have HAY : Hid (y.At w) := hxy.2
      have HLF := Lib.hid hleft
      have HSZ : Hid (szs2 (pst2 (st0 ++ [(x, y)])) ≤ gk) := HG.out
      have hpb : st0.length + 1 ≤ 1000000 := by have h1 := szs2_length (pst2 (st0 ++ [(x, y)])); have h2 := HSZ.out; have h3 := HG2.out; simp [pst2] at h1 h2; omega
      have HFR := Lib.hid hfr
      obtain ⟨xk, xf, xn, xs, xla, xlc, xl, xka, xkc, xks⟩ := x
      obtain ⟨yk, yf, yn, ys, yla, ylc, yl, yka, ykc, yks⟩ := y
      obtain ⟨c0, c1, c2, c3, c4, c5⟩ := hlx
      obtain ⟨d0, d1, d2, d3, d4, d5⟩ := hly
      have hgl : g < wo.heap.size := World.block_lt_of_cell? wo _ c0
      clear HLe HT hleft hxy hfr HG HN
      generalize hp : st0.length = p at *
      have HP := Lib.hid hp
      clear hp
      dsimp only [M.val] at HIX HIY
      generalize hX : M.mk xk xf xn xs xla xlc xl xka xkc xks = x at *
      generalize hY : M.mk yk yf yn ys yla ylc yl yka ykc yks = y at *
      clear hX hY
      generalize xl.length = xln at *
      generalize xks.length = xkn at *
      generalize yl.length = yln at *
      generalize yks.length = ykn at *
      go_wp2_with fail
      obtain ⟨⟨k0, k1, k2, k3, k4, k5⟩, ⟨l0, l1, l2, l3, l4, l5⟩⟩ := box12 (at_new wo (.cells #[.int .i64 xk, .bool xf, .int .i64 xn, .string xs, .slice xla xln xlc, .slice xka xkn xkc, .int .i64 yk, .bool yf, .int .i64 yn, .string ys, .slice yla yln ylc, .slice yka ykn ykc] 74))
      have HF0 := Lib.hid (HFR.out.alloc (.cells #[.int .i64 xk, .bool xf, .int .i64 xn, .string xs, .slice xla xln xlc, .slice xka xkn xkc, .int .i64 yk, .bool yf, .int .i64 yn, .string ys, .slice yla yln ylc, .slice yka ykn ykc] 74))
      have HL0 := Lib.hid (HLF.out.move ((Fresh.refl wo).alloc (.cells #[.int .i64 xk, .bool xf, .int .i64 xn, .string xs, .slice xla xln xlc, .slice xka xkn xkc, .int .i64 yk, .bool yf, .int .i64 yn, .string ys, .slice yla yln ylc, .slice yka ykn ykc] 74)))
      have hgb : g < (wo.alloc (.cells #[.int .i64 xk, .bool xf, .int .i64 xn, .string xs, .slice xla xln xlc, .slice xka xkn xkc, .int .i64 yk, .bool yf, .int .i64 yn, .string ys, .slice yla yln ylc, .slice yka ykn ykc] 74)).heap.size := by rw [World.size_alloc]; omega
      generalize wo.alloc (.cells #[.int .i64 xk, .bool xf, .int .i64 xn, .string xs, .slice xla xln xlc, .slice xka xkn xkc, .int .i64 yk, .bool yf, .int .i64 yn, .string ys, .slice yla yln ylc, .slice yka ykn ykc] 74) = wb at *
      clear c0 c1 c2 c3 c4 c5 d0 d1 d2 d3 d4 d5 HLF HFR
      generalize wo.heap.size = bx at *
      have HFD := Lib.hid HF0.out.drew
      have HLD : Hid (Left2 w wb.drew (some ⟨g, 0, none⟩) c st0) := HL0.out.move ((Fresh.refl wb).drew)
      have HB : Hid (∀ w', Fresh wb.drew w' → (w'.cell? ⟨bx, 0, none⟩ = some (.int .i64 xk) ∧ w'.cell? ⟨bx, 1, none⟩ = some (.bool xf) ∧ w'.cell? ⟨bx, 2, none⟩ = some (.int .i64 xn) ∧ w'.cell? ⟨bx, 3, none⟩ = some (.string xs) ∧ w'.cell? ⟨bx, 4, none⟩ = some (.slice xla xln xlc) ∧ w'.cell? ⟨bx, 5, none⟩ = some (.slice xka xkn xkc) ∧ w'.cell? ⟨bx, 6, none⟩ = some (.int .i64 yk) ∧ w'.cell? ⟨bx, 7, none⟩ = some (.bool yf) ∧ w'.cell? ⟨bx, 8, none⟩ = some (.int .i64 yn) ∧ w'.cell? ⟨bx, 9, none⟩ = some (.string ys) ∧ w'.cell? ⟨bx, 10, none⟩ = some (.slice yla yln ylc) ∧ w'.cell? ⟨bx, 11, none⟩ = some (.slice yka ykn ykc))) := fun w' hf => ⟨hf.cell (a := wb.drew) k0, hf.cell (a := wb.drew) k1, hf.cell (a := wb.drew) k2, hf.cell (a := wb.drew) k3, hf.cell (a := wb.drew) k4, hf.cell (a := wb.drew) k5, hf.cell (a := wb.drew) l0, hf.cell (a := wb.drew) l1, hf.cell (a := wb.drew) l2, hf.cell (a := wb.drew) l3, hf.cell (a := wb.drew) l4, hf.cell (a := wb.drew) l5⟩
      clear HF0 HL0
      go_region_held3 (fun w' => (w'.cell? ⟨bx, 0, none⟩ = some (.int .i64 xk) ∧ w'.cell? ⟨bx, 1, none⟩ = some (.bool xf) ∧ w'.cell? ⟨bx, 2, none⟩ = some (.int .i64 xn) ∧ w'.cell? ⟨bx, 3, none⟩ = some (.string xs) ∧ w'.cell? ⟨bx, 4, none⟩ = some (.slice xla xln xlc) ∧ w'.cell? ⟨bx, 5, none⟩ = some (.slice xka xkn xkc) ∧ w'.cell? ⟨bx, 6, none⟩ = some (.int .i64 yk) ∧ w'.cell? ⟨bx, 7, none⟩ = some (.bool yf) ∧ w'.cell? ⟨bx, 8, none⟩ = some (.int .i64 yn) ∧ w'.cell? ⟨bx, 9, none⟩ = some (.string ys) ∧ w'.cell? ⟨bx, 10, none⟩ = some (.slice yla yln ylc) ∧ w'.cell? ⟨bx, 11, none⟩ = some (.slice yka ykn ykc))) (go_keep)
        (first
          | (go_at_call 39; (with_reducible refine (HIX.out _ HFD.out).mono ?_); rintro e W1 ⟨ia, ic, rfl, hra, hf1, hsa⟩; obtain ⟨q0, q1, q2, q3, q4, q5, r0, r1, r2, r3, r4, r5⟩ := HB.out _ hf1; have HF1 := Lib.hid (HFD.out.trans hf1); have HW1 := Lib.hid hf1; have HRA := Lib.hid hra; have HSA := Lib.hid hsa; clear hra hf1 hsa)
          | (go_at_call 39; (with_reducible refine (HIY.out _ HF1.out).mono ?_); rintro e W2 ⟨ib, ic2, rfl, hrb, hf2, hsb⟩; obtain ⟨s0, s1, s2, s3, s4, s5, t0, t1, t2, t3, t4, t5⟩ := HB.out _ (HW1.out.trans hf2); have HF2 := Lib.hid (HF1.out.trans hf2); have HW2 := Lib.hid hf2; have HRB := Lib.hid hrb; have HSB := Lib.hid hsb; clear hrb hf2 hsb))
      clear k0 k1 k2 k3 k4 k5 l0 l1 l2 l3 l4 l5 q0 q1 q2 q3 q4 q5 r0 r1 r2 r3 r4 r5 s0 s1 s2 s3 s4 s5 t0 t1 t2 t3 t4 t5 HB HIX HIY
      have HRA2 := Lib.hid (HRA.out.move HW2.out)
      have HAPX := Lib.hid (apart_start HAX.out hgB (show g < wb.drew.heap.size from hgb) HSA.out)
      have HAPY := Lib.hid (apart_start HAY.out hgB (Nat.lt_of_lt_of_le (show g < wb.drew.heap.size from hgb) HW1.out.size) HSB.out)
      have HLF2 := Lib.hid ((HLD.out.move HW1.out).move HW2.out)
      have hxl : x.inside.length ≤ 1000000 := HAX.out.len
      have HEQ : Hid (Calls Tryz.prog 40 #[.slice ia x.inside.length ic, .slice ib y.inside.length ic2, .func (.func 38) #[] #[]] W2 fun e w' => e = .returned (.bool (alikeL (x.inside.map M.plain) (y.inside.map M.plain))) ∧ Fresh W2 w') :=
        allAlike_any x.inside y.inside ia ib ic ic2 W2 HRA2.out HRB.out hxl (fun z hz => (HAX.out.inside z hz).move HF2.out) (fun z hz => (HAY.out.inside z hz).move HF2.out)
      have HST : Hid (∀ j, szs2 (pst2 (st0 ++ pushM2 (x.inside.take j) (y.inside.take j))) < gk) := fun j => by
        have h1 := szs2_pushed ((x.inside.take j).map M.plain) ((y.inside.take j).map M.plain)
        have h2 := HSZ.out
        have h5 := size_inside x.plain
        have h6 : sizeL ((x.inside.take j).map M.plain) ≤ sizeL (x.inside.map M.plain) := by
          rw [List.map_take]; exact sizeL_take _ _
        rw [pst2_append, szs2_append] at h2 ⊢
        rw [pst2_pushM2]
        simp only [pst2, List.map_cons, List.map_nil, szs2] at h2 ⊢
        rw [plain_inside] at h5
        omega
      have HLN : Hid (alikeL (x.inside.map M.plain) (y.inside.map M.plain) = true → x.inside.length = y.inside.length) := fun h => by
        have := alikeL_length h
        simpa using this
      clear HRA HSA HSB HLD HAX HAY HSZ
      generalize x.inside = ins at *
      generalize y.inside = ims at *
      cases hb : alikeL (ins.map M.plain) (ims.map M.plain) with
      | false =>
        have HX := Lib.hid (HTP.out hb)
        rw [hb] at HEQ
        clear hb HTS
        go_wp2_with fail
        refine HEQ.out.mono ?_
        rintro e W3 ⟨rfl, hf3⟩
        go_wp2
        go_ret
        exact ⟨ret_bool HX.out.symm, HF2.out.trans hf3⟩
      | true =>
        have HX := Lib.hid (HTS.out hb)
        have HLEN := Lib.hid (HLN.out hb)
        rw [hb] at HEQ
        clear hb HTP HTS
        go_wp2_with fail
        (with_reducible refine HEQ.out.mono ?_)
        rintro e W3 ⟨rfl, hf3⟩
        have HL3 := Lib.hid (HLF2.out.move hf3)
        have HRA3 := Lib.hid (HRA2.out.move hf3)
        have HRB3 := Lib.hid (HRB.out.move hf3)
        clear hf3 HRA2 HRB HLF2 HEQ HF2 HW2 HF1 HW1 HFD
        go_wp2
        go_loopw [5, 44] (fun a5 a44 wq => ∃ (j c' q : Nat) (a' : Option Addr), j ≤ ins.length ∧ a5 = .slice a' q c' ∧ a44 = .int .i64 j ∧ Hid (q = (st0 ++ pushM2 (ins.take j) (ims.take j)).length) ∧ Hid (Left2 w wq a' c' (st0 ++ pushM2 (ins.take j) (ims.take j))) ∧ Hid (RowAt wq ia (mcells ins)) ∧ Hid (RowAt wq ib (mcells ims)) ∧ Hid (Apart a' ia ins) ∧ Hid (Apart a' ib ims)) (fun _ a44 _ => ins.length - (intOf a44).toNat)
        case atStart => exact ⟨0, c, p, some ⟨g, 0, none⟩, Nat.zero_le _, rfl, rfl, by simp [Hid, pushM2]; exact HP.out.symm, by have := HL3.out; simpa [Hid, pushM2] using this, HRA3.out, HRB3.out, HAPX.out, HAPY.out⟩
        case round =>
          obtain ⟨j, c', q, a', hj, rfl, rfl, HN, HL5, HRA5, HRB5, HAX5, HAY5⟩ := hrel
          clear HL3 HRA3 HRB3 HAPX HAPY
          by_cases hlt : j < ins.length
          · have hltm : j < ims.length := by rw [← HLEN.out]; exact hlt
            obtain ⟨gi, ei⟩ := row_some HRA5.out j hlt
            obtain ⟨gj, ej⟩ := row_some HRB5.out j hltm
            subst ei ej
            have HYL : Hid (∀ W, RowAt W (some ⟨gi, 0, none⟩) (mcells ins) → ins[j].lies W gi (j * 6)) := fun W h => mrow_get h j hlt
            have HZL : Hid (∀ W, RowAt W (some ⟨gj, 0, none⟩) (mcells ims) → ims[j].lies W gj (j * 6)) := fun W h => mrow_get h j hltm
            have HPT := Lib.hid (pushM2_take ins ims j hlt hltm)
            have HQ2 : Hid (∀ W, Calls Tryz.prog 41 #[ins[j].val] W fun e w' => e = .returned (.bool ins[j].plain.holds) ∧ Fresh W w') := fun W => holds_any _ W
            have HNE : Hid (ins ≠ []) := List.ne_nil_of_length_pos (by omega)
            have HNE2 : Hid (ims ≠ []) := List.ne_nil_of_length_pos (by omega)
            have i1 : (0 : Int) ≤ (j : Int) := by omega
            have i2 : (j : Int) < (ins.length : Int) := by omega
            have i3 : (j : Int) < (ims.length : Int) := by omega
            generalize ins[j] = y at *
            generalize ims[j] = z at *
            have HU := Lib.hid (dcells_one (y, z))
            generalize y.plain.holds = b at *
            obtain ⟨yk, yf, yn, ys, yla, ylc, yl, yka, ykc, yks⟩ := y
            obtain ⟨zk, zf, zn, zs, zla, zlc, zl, zka, zkc, zks⟩ := z
            dsimp only [M.val] at HQ2
            obtain ⟨d0, d1, d2, d3, d4, d5⟩ := HYL.out wr HRA5.out
            have HWC : Hid (dcellsOf (M.mk yk yf yn ys yla ylc yl yka ykc yks, M.mk zk zf zn zs zla zlc zl zka zkc zks) = [.int .i64 yk, .bool yf, .int .i64 yn, .string ys, .slice yla yl.length ylc, .slice yka yks.length ykc, .int .i64 zk, .bool zf, .int .i64 zn, .string zs, .slice zla zl.length zlc, .slice zka zks.length zkc]) := by
              simp [Hid, dcellsOf, M.cells]
            cases b with
            | false =>
              clear HYL HZL HWC HU
              generalize yl.length = yln at *
              generalize yks.length = ykn at *
              go_wp2_with fail
              refine (HQ2.out _).mono ?_
              rintro e w4 ⟨rfl, hf4⟩
              have HF4 := Lib.hid hf4
              clear hf4 d0 d1 d2 d3 d4 d5
              go_wp2
              go_roundw
              case rel => exact ⟨j + 1, c', q, a', by omega, rfl, by go_num, by rw [Hid, HPT.out]; simpa using HN.out, by rw [Hid, HPT.out]; have := HL5.out.move HF4.out; simpa using this, HRA5.out.move HF4.out, HRB5.out.move HF4.out, HAX5.out, HAY5.out⟩
              case measure => simp [intOf]; omega
            | true =>
              have hq6 : q + 1 ≤ 2000000 := by
                have h1 := szs2_length (pst2 (st0 ++ pushM2 (ins.take j) (ims.take j)))
                have h2 := HST.out j
                have h3 := HG2.out
                have h4 : q = _ := HN.out
                rw [show (pst2 (st0 ++ pushM2 (ins.take j) (ims.take j))).length = (st0 ++ pushM2 (ins.take j) (ims.take j)).length by simp [pst2]] at h1
                omega
              have hm1 : q + 1 ≤ maxLen := by unfold maxLen; omega
              have hm2 : (q + 1) * 176 ≤ 140737488355328 := by omega
              generalize hY : M.mk yk yf yn ys yla ylc yl yka ykc yks = y at *
              generalize hZ : M.mk zk zf zn zs zla zlc zl zka zkc zks = z at *
              have HYL2 : Hid (∀ W, RowAt W (some ⟨gi, 0, none⟩) (mcells ins) → (M.mk yk yf yn ys yla ylc yl yka ykc yks).lies W gi (j * 6)) := by rw [hY]; exact HYL
              have HZL2 : Hid (∀ W, RowAt W (some ⟨gj, 0, none⟩) (mcells ims) → (M.mk zk zf zn zs zla zlc zl zka zkc zks).lies W gj (j * 6)) := by rw [hZ]; exact HZL
              dsimp only [M.lies] at HYL2 HZL2
              clear hY hZ HYL HZL
              have HAF : Hid (∀ {W w5 : World} {g' cap' : Nat} (o : Obj), Fresh wr W → w5.ownsRow w.heap.size 74 12 (.slice (some ⟨g', 0, none⟩) (q + 1) cap') (q + 1) (dcells (st0 ++ pushM2 (ins.take j) (ims.take j)) ++ dcellsOf (y, z)) → (W.alloc o).grownBy w5 (Value.slice a' q c').ownBlock → ((Value.slice a' q c').ownBlock = some g' ∨ g' = W.heap.size + 1) → _) :=
                fun o hf h1 h2 h3 => after_push2 (p := (y, z)) o HN.out (HL5.out.move hf) (HRA5.out.move hf) (HRB5.out.move hf) HNE.out HNE2.out HAX5.out HAY5.out h1 h2 h3
              have HOW : Hid (∀ W, Fresh wr W → W.ownsRow w.heap.size 74 12 (.slice a' q c') q (dcells (st0 ++ pushM2 (ins.take j) (ims.take j)))) := fun W hf => by
                have h1 := (HL5.out.move hf).own
                rw [← (show q = _ from HN.out)] at h1
                exact h1
              have HLO : Hid (∀ W, Fresh wr W → w.heap.size ≤ W.heap.size) := fun W hf => (HL5.out.move hf).fresh.size
              have HNX : Hid (q + 1 = (st0 ++ pushM2 (ins.take j) (ims.take j) ++ [(y, z)]).length) := by
                have h4 : q = _ := HN.out
                rw [Hid, List.length_append, ← h4]; rfl
              have HEQ2 : Hid (st0 ++ pushM2 (ins.take (j + 1)) (ims.take (j + 1)) = st0 ++ pushM2 (ins.take j) (ims.take j) ++ [(y, z)]) := by
                rw [Hid, HPT.out, if_pos rfl, ← List.append_assoc]
              rw [HWC.out] at HAF HU
              generalize st0 ++ pushM2 (ins.take j) (ims.take j) = ST at *
              generalize yl.length = yln at *
              generalize yks.length = ykn at *
              generalize zl.length = zln at *
              generalize zks.length = zkn at *
              go_wp2_with fail
              refine (HQ2.out _).mono ?_
              rintro e w4 ⟨rfl, hf4⟩
              have HF4 := Lib.hid hf4
              clear d0 d1 d2 d3 d4 d5
              obtain ⟨d0, d1, d2, d3, d4, d5⟩ := HYL2.out w4 (HRA5.out.move hf4)
              obtain ⟨e0, e1, e2, e3, e4, e5⟩ := HZL2.out w4 (HRB5.out.move hf4)
              have hgi : gi < w4.heap.size := World.block_lt_of_cell? w4 _ d0
              have hgj : gj < w4.heap.size := World.block_lt_of_cell? w4 _ e0
              have hRd0 := Ready.mk' (B := w.heap.size) (k := 12) #[.int .i64 yk, .bool yf, .int .i64 yn, .string ys, .slice yla yln ylc, .slice yka ykn ykc, .int .i64 zk, .bool zf, .int .i64 zn, .string zs, .slice zla zln zlc, .slice zka zkn zkc] 74 (HOW.out w4 hf4) (HLO.out w4 hf4)
              have hRd : Hid (Ready w.heap.size 74 12 (w4.alloc (.cells #[.int .i64 yk, .bool yf, .int .i64 yn, .string ys, .slice yla yln ylc, .slice yka ykn ykc, .int .i64 zk, .bool zf, .int .i64 zn, .string zs, .slice zla zln zlc, .slice zka zkn zkc] 74)).drew (.slice a' q c') q (dcells ST) w4.heap.size [.int .i64 yk, .bool yf, .int .i64 yn, .string ys, .slice yla yln ylc, .slice yka ykn ykc, .int .i64 zk, .bool zf, .int .i64 zn, .string zs, .slice zla zln zlc, .slice zka zkn zkc]) := ⟨hRd0.own, hRd0.box, hRd0.low⟩
              have HAF2 : Hid (∀ {w5 : World} {g' cap' : Nat}, w5.ownsRow w.heap.size 74 12 (.slice (some ⟨g', 0, none⟩) (q + 1) cap') (q + 1) (dcells ST ++ [.int .i64 yk, .bool yf, .int .i64 yn, .string ys, .slice yla yln ylc, .slice yka ykn ykc, .int .i64 zk, .bool zf, .int .i64 zn, .string zs, .slice zla zln zlc, .slice zka zkn zkc]) → (w4.alloc (.cells #[.int .i64 yk, .bool yf, .int .i64 yn, .string ys, .slice yla yln ylc, .slice yka ykn ykc, .int .i64 zk, .bool zf, .int .i64 zn, .string zs, .slice zla zln zlc, .slice zka zkn zkc] 74)).drew.grownBy w5 (Value.slice a' q c').ownBlock → ((Value.slice a' q c').ownBlock = some g' ∨ g' = w4.heap.size + 1) → _) :=
                fun h1 h2 h3 => HAF.out (.cells #[.int .i64 yk, .bool yf, .int .i64 yn, .string ys, .slice yla yln ylc, .slice yka ykn ykc, .int .i64 zk, .bool zf, .int .i64 zn, .string zs, .slice zla zln zlc, .slice zka zkn zkc] 74) hf4 h1 ⟨h2.os, h2.tape, h2.output, h2.size, h2.block⟩ h3
              clear hf4 hRd0 HOW HLO HAF
              go_wp2_with fail
              go_region_held_law (fun w' => (w'.cell? ⟨gi, j * 6, none⟩ = some (.int .i64 yk) ∧ w'.cell? ⟨gi, j * 6 + 1, none⟩ = some (.bool yf) ∧ w'.cell? ⟨gi, j * 6 + 2, none⟩ = some (.int .i64 yn) ∧ w'.cell? ⟨gi, j * 6 + 3, none⟩ = some (.string ys) ∧ w'.cell? ⟨gi, j * 6 + 4, none⟩ = some (.slice yla yln ylc) ∧ w'.cell? ⟨gi, j * 6 + 5, none⟩ = some (.slice yka ykn ykc) ∧ w'.cell? ⟨gj, j * 6, none⟩ = some (.int .i64 zk) ∧ w'.cell? ⟨gj, j * 6 + 1, none⟩ = some (.bool zf) ∧ w'.cell? ⟨gj, j * 6 + 2, none⟩ = some (.int .i64 zn) ∧ w'.cell? ⟨gj, j * 6 + 3, none⟩ = some (.string zs) ∧ w'.cell? ⟨gj, j * 6 + 4, none⟩ = some (.slice zla zln zlc) ∧ w'.cell? ⟨gj, j * 6 + 5, none⟩ = some (.slice zka zkn zkc))) (go_keep)
                ((refine step_append_lies _ (by rfl) (.tmp 52) (.tmp 62) 75 (by rfl) w.heap.size 74 i0 _ 12 176 Tryz.underlying75 hi hz0 hz1 hz2 (by rfl) (by decide) (.slice a' q c') q (dcells ST) (by rfl) hRd.out.own ⟨w4.heap.size, 0, none⟩ 1 1 [.int .i64 yk, .bool yf, .int .i64 yn, .string ys, .slice yla yln ylc, .slice yka ykn ykc, .int .i64 zk, .bool zf, .int .i64 zn, .string zs, .slice zla zln zlc, .slice zka zkn zkc] (by rfl) (by rfl) hRd.out.box HU.out (by decide) hm1 hm2 hRd.out.low (w4.heap.size + 1) (by simp) ?_; intro g' cap' w5 hown5 hgrow5 hat5 hlt5; have HE := Lib.hid (HAF2.out hown5 hgrow5 hat5); clear hown5 hgrow5 hat5 hlt5; obtain ⟨u0, u1, u2, u3, u4, u5⟩ := HYL2.out w5 HE.out.2.1; obtain ⟨v0, v1, v2, v3, v4, v5⟩ := HZL2.out w5 HE.out.2.2.1))
              clear d0 d1 d2 d3 d4 d5 e0 e1 e2 e3 e4 e5
              clear u0 u1 u2 u3 u4 u5 v0 v1 v2 v3 v4 v5
              go_wp2
              go_roundw
              case rel => exact ⟨j + 1, cap', q + 1, some ⟨g', 0, none⟩, by omega, rfl, by go_num, by rw [Hid, HEQ2.out]; exact HNX.out, by rw [Hid, HEQ2.out]; exact HE.out.1, HE.out.2.1, HE.out.2.2.1, HE.out.2.2.2.1, HE.out.2.2.2.2⟩
              case measure => simp [intOf]; omega
          · obtain rfl : j = ins.length := by omega
            have HS := Lib.hid (HST.out ins.length)
            have ht : ims.take ins.length = ims := by rw [HLEN.out, List.take_length]
            rw [List.take_length, ht] at HN HL5 HS
            clear ht
            go_wp2
            go_roundg (szs2 (pst2 (st0 ++ pushM2 ins ims)))
            case measure => exact HS.out
            case rel => exact ⟨c', q, a', st0 ++ pushM2 ins ims, rfl, HN, Nat.le_refl _, Nat.le_trans (Nat.le_of_lt HS.out) HG2.out, HL5, HX⟩
theorem same_any (m m' : M) (w : World) (hm : m.At w) (hm' : m'.At w) (hs : m.plain.size ≤ 1000000) : Calls Tryz.prog 15 #[m.val, m'.val] w fun e w' => e = .returned (.bool (m.plain.same m'.plain)) ∧ Fresh w w' := by
  rw [same_eq]
  cases ha : m.plain.alike m'.plain with
  | false => exact same_no m m' w hm hm' ha
  | true => exact same_yes m m' w hm hm' hs ha
end Go.Proofs.YthhdadfnkdjmkaaGreatDoor.v
