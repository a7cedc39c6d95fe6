/-
  Package value: ownFault, fault, Check.
  Package value: Of, Whole, Yes, Row, Map; the document's example.
  Package value: Map, of a row of pairs.
  Package value: lists and keys, with where their rows lie.
  Package yaml's reader: quoted texts, and plain words, as values.
  Package yaml's reader: scalars.
-/
import Derived.Test.YthhdadfnkdjmkaaGreatDoorCat05
import Derived.Test.YthhdadfnkdjmkaaGreatDoorCat14
import Derived.Test.YthhdadfnkdjmkaaGreatDoorCat15
import Derived.RegionTactic
import Derived.Lib.SliceRun
import Derived.Test.YthhdadfnkdjmkaaGreatDoorCat11
namespace Go.Proofs.YthhdadfnkdjmkaaGreatDoor.v
open Go.ChangeShapes Go.WideShapes Go.ChangeAt Go.RowKit
variable {w : World}

set_option maxRecDepth 100000 in
set_option maxHeartbeats 1000000 in
theorem ownFault_any (m : M) (w : World) (hT : Tabs w) (hat : m.At w) : Calls Tryz.prog 95 #[m.val] w fun e w' => e = .returned (.int .i64 m.plain.own) ∧ Fresh w w' := by
  obtain ⟨k, f, n, s, la, lc, l, ka, kc, ks⟩ := m
  obtain ⟨hs, _, hk, _, lk, hn, _⟩ := hat.parts
  have hown : (M.mk k f n s la lc l ka kc ks).plain.own = if k < 0 ∨ 5 < k then 15 else if k = 3 then textW s else if k = 5 then keysW (ks.map (·.1)) else 0 := by
    have : ((M.mk k f n s la lc l ka kc ks).plain.keys.map (·.1)) = ks.map (·.1) := plain_names _
    unfold V.own
    rw [this]; rfl
  rw [hown]
  dsimp only [M.val]
  clear hat hown
  by_cases h3 : k = 3
  · subst h3
    rw [if_neg (by omega), if_pos rfl]
    have HQ : Hid (∀ W, Fresh w W → Calls Tryz.prog 122 #[.string s] W fun e w' => e = .returned (.int .i64 (textW s)) ∧ Fresh W w') := fun W hf => textFault_any s W hs (hT.move hf)
    generalize textW s = x at *
    generalize l.length = ln at *
    generalize ks.length = kn at *
    go_enter Tryz.func95, Tryz.ntmps95
    go_wp2_with fail
    refine (HQ.out _ ((Fresh.refl w).alloc _)).mono ?_
    rintro e w1 ⟨rfl, hf⟩
    go_wp2
    go_ret
    exact ⟨rfl, ((Fresh.refl w).alloc _).trans hf⟩
  by_cases h5 : k = 5
  · subst h5
    rw [if_neg (by omega), if_neg (by omega), if_pos rfl]
    have HQ : Hid (∀ W, Fresh w W → Calls Tryz.prog 123 #[.slice ka ks.length kc] W fun e w' => e = .returned (.int .i64 (keysW (ks.map (·.1)))) ∧ Fresh W w') := fun W hf => keysFault_any ks ka kc W (hT.move hf) (hk.move hf) lk hn
    generalize keysW (ks.map (·.1)) = x at *
    clear hk hn lk h3
    generalize l.length = ln at *
    generalize ks.length = kn at *
    go_enter Tryz.func95, Tryz.ntmps95
    go_wp2_with fail
    refine (HQ.out _ ((Fresh.refl w).alloc _)).mono ?_
    rintro e w1 ⟨rfl, hf⟩
    go_wp2
    go_ret
    exact ⟨rfl, ((Fresh.refl w).alloc _).trans hf⟩
  clear hk hn lk hs hT
  generalize l.length = ln at *
  generalize ks.length = kn at *
  by_cases h0 : k = 0
  · subst h0
    rw [if_neg (by omega), if_neg (by omega), if_neg (by omega)]
    clear h3 h5
    go_enter Tryz.func95, Tryz.ntmps95
    go_wp2
    go_ret
    exact ⟨rfl, (Fresh.refl w).alloc _⟩
  by_cases h1 : k = 1
  · subst h1
    rw [if_neg (by omega), if_neg (by omega), if_neg (by omega)]
    clear h3 h5 h0
    go_enter Tryz.func95, Tryz.ntmps95
    go_wp2
    go_ret
    exact ⟨rfl, (Fresh.refl w).alloc _⟩
  by_cases h2 : k = 2
  · subst h2
    rw [if_neg (by omega), if_neg (by omega), if_neg (by omega)]
    clear h3 h5 h0 h1
    go_enter Tryz.func95, Tryz.ntmps95
    go_wp2
    go_ret
    exact ⟨rfl, (Fresh.refl w).alloc _⟩
  by_cases h4 : k = 4
  · subst h4
    rw [if_neg (by omega), if_neg (by omega), if_neg (by omega)]
    clear h3 h5 h0 h1 h2
    go_enter Tryz.func95, Tryz.ntmps95
    go_wp2
    go_ret
    exact ⟨rfl, (Fresh.refl w).alloc _⟩
  · rw [if_pos (by omega)]
    have e0 : (k == 0) = false := by simpa using h0
    have e1 : (k == 1) = false := by simpa using h1
    have e2 : (k == 2) = false := by simpa using h2
    have e3 : (k == 3) = false := by simpa using h3
    have e4 : (k == 4) = false := by simpa using h4
    have e5 : (k == 5) = false := by simpa using h5
    clear h0 h1 h2 h3 h4 h5
    go_enter Tryz.func95, Tryz.ntmps95
    go_wp2
    go_ret
    exact ⟨rfl, (Fresh.refl w).alloc _⟩
set_option maxRecDepth 100000 in
set_option maxHeartbeats 1000000 in
theorem fault_step (m : M) (w : World) (hT : Tabs w) (hat : m.At w)
    (ih : ∀ x ∈ m.inside, ∀ W, Fresh w W → Calls Tryz.prog 69 #[x.val] W fun e w' => e = .returned (.int .i64 x.plain.wrong) ∧ Fresh W w') :
    Calls Tryz.prog 69 #[m.val] w fun e w' => e = .returned (.int .i64 m.plain.wrong) ∧ Fresh w w' := by
  have HQ : Hid (∀ W, Fresh w W → Calls Tryz.prog 95 #[m.val] W fun e w' => e = .returned (.int .i64 m.plain.own) ∧ Fresh W w') := fun W hf => ownFault_any m W (hT.move hf) (hat.move hf)
  have HI : Hid (∀ W, Fresh w W → Calls Tryz.prog 39 #[m.val] W (InsideIs m W)) := fun W hf => inside_any m W (hat.move hf)
  have HIH := Lib.hid ih
  have HWR : Hid (m.plain.wrong = if m.plain.own ≠ 0 then m.plain.own else wrongL (m.inside.map M.plain)) := by rw [Hid, wrong_eq, plain_inside]
  have hlen := hat.len
  rw [HWR.out]
  clear ih hat hT HWR
  generalize m.plain.own = ow at *
  unfold InsideIs at HI
  generalize m.inside = ins at *
  obtain ⟨k, f, n, s, la, lc, l, ka, kc, ks⟩ := m
  dsimp only [M.val] at *
  generalize l.length = ln at *
  generalize ks.length = kn at *
  by_cases how : ow = 0
  · subst how
    rw [if_neg (by simp)]
    go_enter Tryz.func69, Tryz.ntmps69
    go_wp2_with fail
    refine (HQ.out _ ((Fresh.refl w).alloc _)).mono ?_
    rintro e w1 ⟨rfl, hf⟩
    have HF1 := Lib.hid (((Fresh.refl w).alloc _).trans hf)
    obtain ⟨b0, b1, b2, b3, b4, b5⟩ := box6' (hf.at (at_new w _))
    clear hf
    go_wp2_with fail
    refine (HI.out _ HF1.out).mono ?_
    rintro e w2 ⟨a, c, rfl, hr, hf2, _⟩
    have HF2 := Lib.hid (HF1.out.trans hf2)
    have HR := Lib.hid hr
    clear hr hf2 b0 b1 b2 b3 b4 b5
    go_wp2
    go_loopw [15] (fun a15 wq => ∃ j : Nat, j ≤ ins.length ∧ a15 = .int .i64 j ∧ Hid (wrongL (ins.map M.plain) = wrongL ((ins.map M.plain).drop j)) ∧ Hid (Fresh w2 wq)) (fun a15 _ => ins.length - (intOf a15).toNat)
    case atStart => exact ⟨0, Nat.zero_le _, rfl, rfl, Fresh.refl _⟩
    case round =>
      obtain ⟨j, hj, rfl, HE, HW⟩ := hrel
      by_cases hlt : j < ins.length
      · obtain ⟨g, eg⟩ := row_some HR.out j hlt
        subst eg
        have hy := mrow_get (HR.out.move HW.out) j hlt
        have hd := wrongL_drop (ins.map M.plain) j (by simpa using hlt)
        rw [List.getElem_map] at hd
        have HX := Lib.hid hd
        have HQ2 : Hid (∀ W, Fresh wr W → Calls Tryz.prog 69 #[ins[j].val] W fun e w' => e = .returned (.int .i64 ins[j].plain.wrong) ∧ Fresh W w') := fun W hf => HIH.out _ (List.getElem_mem _) W ((HF2.out.trans HW.out).trans hf)
        clear hd
        generalize ins[j] = y at *
        generalize y.plain.wrong = x at *
        obtain ⟨yk, yf, yn, ys, yla, ylc, yl, yka, ykc, yks⟩ := y
        obtain ⟨d0, d1, d2, d3, d4, d5⟩ := hy
        dsimp only [M.val] at HQ2
        generalize yl.length = yln at *
        generalize yks.length = ykn at *
        by_cases hx : x = 0
        · subst hx
          have HX2 : Hid (wrongL ((ins.map M.plain).drop j) = wrongL ((ins.map M.plain).drop (j + 1))) := by rw [Hid, HX.out, if_neg (by simp)]
          go_wp2_with fail
          refine (HQ2.out _ ((Fresh.refl wr).alloc _)).mono ?_
          rintro e w3 ⟨rfl, hf⟩
          have HF := Lib.hid ((HW.out.alloc _).trans hf)
          clear hf
          go_wp2
          go_roundw
          case rel => exact ⟨j + 1, by omega, by go_num, by rw [Hid, HE.out, HX2.out], HF.out⟩
          case measure => simp [intOf]; omega
        · have HX2 : Hid (wrongL (ins.map M.plain) = x) := by rw [Hid, HE.out, HX.out, if_pos hx]
          have hxb : (x == 0) = false := by simpa using hx
          go_wp2_with fail
          refine (HQ2.out _ ((Fresh.refl wr).alloc _)).mono ?_
          rintro e w3 ⟨rfl, hf⟩
          have HF := Lib.hid ((HW.out.alloc _).trans hf)
          clear hf
          go_wp2
          go_ret
          exact ⟨ret_int (by rw [HX2.out]), HF2.out.trans HF.out⟩
      · obtain rfl : j = ins.length := by omega
        have HX : Hid (wrongL (ins.map M.plain) = 0) := by rw [Hid, HE.out, List.drop_eq_nil_of_le (by simp)]; rfl
        go_wp2
        go_ret
        exact ⟨ret_int (by rw [HX.out]), HF2.out.trans HW.out⟩
  · rw [if_pos how]
    have hb : (ow == 0) = false := by simpa using how
    go_enter Tryz.func69, Tryz.ntmps69
    go_wp2_with fail
    refine (HQ.out _ ((Fresh.refl w).alloc _)).mono ?_
    rintro e w1 ⟨rfl, hf⟩
    go_wp2
    go_ret
    exact ⟨rfl, ((Fresh.refl w).alloc _).trans hf⟩
theorem fault_all (N : Nat) : ∀ (m : M) (w : World), m.plain.size ≤ N → Tabs w → m.At w → Calls Tryz.prog 69 #[m.val] w fun e w' => e = .returned (.int .i64 m.plain.wrong) ∧ Fresh w w' := by
  induction N with
  | zero => intro m w hN; have := m.plain.size_pos; omega
  | succ N ih =>
    intro m w hN hT hat
    have hsz := size_inside m.plain
    rw [plain_inside] at hsz
    refine fault_step m w hT hat (fun x hx W hf => ?_)
    have := size_mem (List.mem_map_of_mem (f := M.plain) hx)
    exact ih x W (by omega) (hT.move hf) ((hat.inside x hx).move hf)
theorem check_any (m : M) (w : World) (hT : Tabs w) (hat : m.At w) : Calls Tryz.prog 43 #[m.val] w fun e w' => e = .returned (.int .i64 m.plain.check) ∧ Fresh w w' := by
  have HQ : Hid (∀ W, Fresh w W → Calls Tryz.prog 68 #[m.val, .int .i64 32] W fun e w' => e = .returned (.bool (decide (32 < m.plain.depth))) ∧ Fresh W w') := fun W hf => deeper_any 32 m W (by omega) (hat.move hf)
  have HI : Hid (∀ W, Fresh w W → Calls Tryz.prog 69 #[m.val] W fun e w' => e = .returned (.int .i64 m.plain.wrong) ∧ Fresh W w') := fun W hf => fault_all m.plain.size m W (Nat.le_refl _) (hT.move hf) (hat.move hf)
  have HC : Hid (m.plain.check = if 32 < m.plain.depth then 9 else m.plain.wrong) := rfl
  clear hT hat
  rw [HC.out]
  clear HC
  generalize m.plain.wrong = x at *
  by_cases hd : 32 < m.plain.depth
  · rw [if_pos hd]
    rw [decide_eq_true hd] at HQ
    clear hd
    obtain ⟨k, f, n, s, la, lc, l, ka, kc, ks⟩ := m
    dsimp only [M.val] at *
    generalize l.length = ln at *
    generalize ks.length = kn at *
    go_enter Tryz.func43, Tryz.ntmps43
    go_wp2_with fail
    refine (HQ.out _ ((Fresh.refl w).alloc _)).mono ?_
    rintro e w1 ⟨rfl, hf⟩
    go_wp2
    go_ret
    exact ⟨rfl, ((Fresh.refl w).alloc _).trans hf⟩
  · rw [if_neg hd]
    rw [decide_eq_false hd] at HQ
    clear hd
    obtain ⟨k, f, n, s, la, lc, l, ka, kc, ks⟩ := m
    dsimp only [M.val] at *
    generalize l.length = ln at *
    generalize ks.length = kn at *
    go_enter Tryz.func43, Tryz.ntmps43
    go_wp2_with fail
    refine (HQ.out _ ((Fresh.refl w).alloc _)).mono ?_
    rintro e w1 ⟨rfl, hf⟩
    have HF1 := Lib.hid (((Fresh.refl w).alloc _).trans hf)
    obtain ⟨b0, b1, b2, b3, b4, b5⟩ := box6' (hf.at (at_new w _))
    clear hf
    go_wp2_with fail
    refine (HI.out _ HF1.out).mono ?_
    rintro e w2 ⟨rfl, hf2⟩
    go_wp2
    go_ret
    exact ⟨rfl, HF1.out.trans hf2⟩
end Go.Proofs.YthhdadfnkdjmkaaGreatDoor.v
namespace Go.Proofs.YthhdadfnkdjmkaaGreatDoor.v
open Go.ChangeShapes Go.WideShapes Go.ChangeAt Go.RowKit
variable {w : World}

def M.ofText (s : ByteArray) : M := .mk 3 false 0 s none 0 [] none 0 []
def M.ofInt (n : Int) : M := .mk 2 false n ⟨#[]⟩ none 0 [] none 0 []
def M.ofFlag (b : Bool) : M := .mk 1 b 0 ⟨#[]⟩ none 0 [] none 0 []
theorem of_any (s : ByteArray) (w : World) : Calls Tryz.prog 42 #[.string s] w fun e w' => e = .returned (M.ofText s).val ∧ Fresh w w' := by
  go_enter Tryz.func42, Tryz.ntmps42
  go_wp2
  exact bodyPost_ret (v := (M.ofText s).val) (by simp [results, Tryz.results42, go_sem, M.ofText, M.val]) rfl ⟨rfl, (Fresh.refl w).alloc _⟩
theorem whole_any (n : Int) (w : World) : Calls Tryz.prog 23 #[.int .i64 n] w fun e w' => e = .returned (M.ofInt n).val ∧ Fresh w w' := by
  go_enter Tryz.func23, Tryz.ntmps23
  go_wp2
  exact bodyPost_ret (v := (M.ofInt n).val) (by simp [results, Tryz.results23, go_sem, M.ofInt, M.val]) rfl ⟨rfl, (Fresh.refl w).alloc _⟩
theorem yes_any (b : Bool) (w : World) : Calls Tryz.prog 16 #[.bool b] w fun e w' => e = .returned (M.ofFlag b).val ∧ Fresh w w' := by
  go_enter Tryz.func16, Tryz.ntmps16
  go_wp2
  exact bodyPost_ret (v := (M.ofFlag b).val) (by simp [results, Tryz.results16, go_sem, M.ofFlag, M.val]) rfl ⟨rfl, (Fresh.refl w).alloc _⟩
theorem at_flat {k : Int} {f : Bool} {n : Int} {s : ByteArray} (w : World) (hs : s.size ≤ 1000000) : (M.mk k f n s none 0 [] none 0 []).At w :=
  .mk hs (.nil w) (.nil w) (by simp) (by simp) (fun _ h => by cases h) (fun _ h => by cases h) (fun _ h => by cases h)
/-- Clone of a list: a row of the call's own. -/
theorem clone_any (l : List M) (g c : Nat) (w : World) (h : RowAt w (some ⟨g, 0, none⟩) (mcells l)) (hne : 0 < l.length) (hl : l.length ≤ 1000000) :
    Calls Tryz.prog 47 #[.slice (some ⟨g, 0, none⟩) l.length c] w fun e w' => (∃ a c', e = .returned (.slice a l.length c') ∧ RowAt w' a (mcells l) ∧ ∀ ad : Addr, a = some ad → w.heap.size ≤ ad.block) ∧ Fresh w w' := by
  obtain ⟨i0, hi, hz0, hz1, hz2⟩ := info_parts info29
  have hbox : ∀ j x, (mcells l)[j]? = some x → (w.alloc (.cells #[] 27)).cell? ((⟨g, 0, none⟩ : Addr).add j) = some x := fun j x hj => by
    rw [addr_add0]
    rcases h with ⟨e, _⟩ | ⟨g', e, h⟩
    · cases e
    · cases e
      exact ((Fresh.refl w).alloc _).cell (h j x hj)
  have hone : ∀ u ∈ mcells l, u.oneCell' = true := fun u hu => by
    unfold mcells at hu
    rw [List.mem_flatMap] at hu
    obtain ⟨m, _, hu⟩ := hu
    exact cells_one m u hu
  have hown : Hid ((w.alloc (.cells #[] 27)).ownsRow w.heap.size 27 6 (.slice (some ⟨w.heap.size, 0, none⟩) 0 0) 0 []) :=
    ⟨rfl, .inr ⟨w.heap.size, 0, #[], rfl, Nat.le_refl _, at_new w _, Nat.le_refl _, by unfold maxLen; omega, rfl, rfl⟩⟩
  have HB := Lib.hid hbox
  have HO := Lib.hid hone
  have hlen : Hid ((mcells l).length = l.length * 6) := mcells_length l
  have hm1 : 0 + l.length ≤ maxLen := by unfold maxLen; omega
  have hm2 : (0 + l.length) * 88 ≤ 140737488355328 := by omega
  have hnil := fun w => Lib.run_eql_slice_nil (P := Tryz.prog) w 24 27 (some ⟨g, 0, none⟩) l.length c 0 0 Tryz.underlying24
  clear h hbox hone
  go_enter Tryz.func47, Tryz.ntmps47
  go_wp2_with (first
    | (at_builtin; refine wpList_append_lies _ rfl _ _ 24 rfl w.heap.size 27 i0 _ 6 88 Tryz.underlying24 hi hz0 hz1 hz2 rfl (by decide) (.slice (some ⟨w.heap.size, 0, none⟩) 0 0) 0 [] rfl hown.out ⟨g, 0, none⟩ l.length c (mcells l) rfl hlen.out HB.out HO.out hne hm1 hm2 (by rw [World.size_alloc]; omega) _ rfl ?_; intro g' cap' w5 hown5 hgrow5 hat5 hlt5; have HW := Lib.hid hown5; have HG := Lib.hid hgrow5; clear hown5 hgrow5 hat5 hlt5)
    | go_in)
  go_ret
  exact ⟨⟨some ⟨g', 0, none⟩, cap', rfl, RowAt.owns HW.out, fun ad h => by cases h; exact (HW.out.lt g' rfl).1⟩, ((Fresh.refl w).alloc _).grown HG.out (fun k e => by cases e; exact Nat.le_refl _)⟩
theorem grown_setCells (g : Nat) : ∀ (vs : List Value) (o : Nat) (w : World), w.grownBy (w.setCells g o vs) (some g)
  | [], _, _ => ⟨rfl, rfl, rfl, Nat.le_refl _, fun _ _ _ => rfl⟩
  | v :: vs, o, w => by
    have h1 := grown_set w g o v
    have h2 := grown_setCells g vs (o + 1) (w.setCell ⟨g, o, none⟩ v)
    exact ⟨h2.os.trans h1.os, h2.tape.trans h1.tape, h2.output.trans h1.output, Nat.le_trans h1.size h2.size, fun k hk hne => (h2.block k (Nat.lt_of_lt_of_le hk h1.size) hne).trans (h1.block k hk hne)⟩
theorem row_any (l : List M) (g c : Nat) (w : World) (h : RowAt w (some ⟨g, 0, none⟩) (mcells l)) (hne : 0 < l.length) (hl : l.length ≤ 1000000) :
    Calls Tryz.prog 22 #[.slice (some ⟨g, 0, none⟩) l.length c] w fun e w' => (∃ a c', e = .returned (M.mk 4 false 0 ⟨#[]⟩ a c' l none 0 []).val ∧ RowAt w' a (mcells l)) ∧ Fresh w w' := by
  have HQ := Lib.hid (clone_any l g c (w.alloc (.cells #[.int .i64 0, .bool false, .int .i64 0, .string ⟨#[]⟩, .slice none 0 0, .slice none 0 0] 27)) (h.move ((Fresh.refl w).alloc _)) hne hl)
  clear h hne hl
  dsimp only [M.val, List.length_nil]
  generalize l.length = ln at *
  go_enter Tryz.func22, Tryz.ntmps22
  go_wp2_with fail
  refine HQ.out.mono ?_
  rintro e w1 ⟨⟨a, c', rfl, hr, hsep⟩, hf⟩
  have hb := hf.at (at_new w _)
  have hF := Lib.hid (((Fresh.refl w).alloc _).trans hf)
  have HR := Lib.hid hr
  have HB := Lib.hid hb
  obtain ⟨b0, b1, b2, b3, b4, b5⟩ := box6' hb
  have hz : w.heap.size < w1.heap.size := World.block_lt_of_cell? w1 _ b0
  have z0 : w1.frozen? ⟨w.heap.size, 0, none⟩ = false := by simp [World.frozen?, hb]
  have z1 : w1.frozen? ⟨w.heap.size, 1, none⟩ = false := by simp [World.frozen?, hb]
  have z2 : w1.frozen? ⟨w.heap.size, 2, none⟩ = false := by simp [World.frozen?, hb]
  have z3 : w1.frozen? ⟨w.heap.size, 3, none⟩ = false := by simp [World.frozen?, hb]
  have z4 : w1.frozen? ⟨w.heap.size, 4, none⟩ = false := by simp [World.frozen?, hb]
  have z5 : w1.frozen? ⟨w.heap.size, 5, none⟩ = false := by simp [World.frozen?, hb]
  have HSEP := Lib.hid hsep
  clear hf hr hb hsep
  go_wp2
  refine bodyPost_ret (v := mval 4 false 0 ⟨#[]⟩ a ln c' none 0 0) (by simp [results, Tryz.results22, go_sem, *]) rfl ⟨⟨a, c', rfl, ?_⟩, ?_⟩
  · refine HR.out.grown (grown_setCells w.heap.size [.int .i64 4, .bool false, .int .i64 0, .string ⟨#[]⟩, .slice a ln c', .slice none 0 0] 0 w1) (fun ad e h => ?_)
    have := HSEP.out ad e
    rw [World.size_alloc] at this
    injection h with h
    omega
  · exact Fresh.setCells (Nat.le_refl _) [.int .i64 4, .bool false, .int .i64 0, .string ⟨#[]⟩, .slice a ln c', .slice none 0 0] 0 hF.out
theorem clone_nil (w : World) : Calls Tryz.prog 46 #[.slice none 0 0] w fun e w' => e = .returned (.slice none 0 0) ∧ w = w' := by
  have hnil := fun w => Lib.run_eql_slice_nil (P := Tryz.prog) w 25 54 none 0 0 0 0 Tryz.underlying25
  go_enter Tryz.func46, Tryz.ntmps46
  go_wp2
  go_ret
  exact ⟨rfl, rfl⟩
theorem map_nil (w : World) : Calls Tryz.prog 21 #[.slice none 0 0] w fun e w' => e = .returned (M.mk 5 false 0 ⟨#[]⟩ none 0 [] none 0 []).val ∧ Fresh w w' := by
  go_enter Tryz.func21, Tryz.ntmps21
  go_wp2_with fail
  refine (clone_nil _).mono ?_
  rintro e w1 ⟨rfl, rfl⟩
  go_wp2
  exact bodyPost_ret (v := (M.mk 5 false 0 ⟨#[]⟩ none 0 [] none 0 []).val) (by simp [results, Tryz.results21, go_sem, M.val]) rfl ⟨rfl, (Fresh.refl w).alloc _⟩
/-- The document's example. -/
theorem awake_any (w : World) (hT : Tabs w) : Calls Tryz.prog 18 #[] w fun e w' => e = .returned (.bool true) ∧ Fresh w w' := by
  have HW1 := Lib.hid (fun W => whole_any 1 W)
  have HW2 := Lib.hid (fun W => map_nil W)
  have HW3 : Hid (∀ (W : World) (b : Nat), W.heap[b]? = some (.cells #[.int .i64 2, .bool false, .int .i64 1, .string ⟨#[]⟩, .slice none 0 0, .slice none 0 0, .int .i64 5, .bool false, .int .i64 0, .string ⟨#[]⟩, .slice none 0 0, .slice none 0 0] 27) → Calls Tryz.prog 22 #[.slice (some ⟨b, 0, none⟩) 2 2] W fun e w' => (∃ a c', e = .returned (M.mk 4 false 0 ⟨#[]⟩ a c' [M.ofInt 1, .mk 5 false 0 ⟨#[]⟩ none 0 [] none 0 []] none 0 []).val ∧ RowAt w' a (mcells [M.ofInt 1, .mk 5 false 0 ⟨#[]⟩ none 0 [] none 0 []])) ∧ Fresh W w') := fun W b hb =>
    row_any [M.ofInt 1, .mk 5 false 0 ⟨#[]⟩ none 0 [] none 0 []] b 2 W (.inr ⟨b, rfl, fun j x hj => cell_of_at hb (by simpa [mcells, M.cells, M.ofInt] using hj)⟩) (by decide) (by decide)
  have HW4 : Hid (∀ (W : World) (a : Option Addr) (c : Nat), RowAt W a (mcells [M.ofInt 1, .mk 5 false 0 ⟨#[]⟩ none 0 [] none 0 []]) → Calls Tryz.prog 17 #[(M.mk 4 false 0 ⟨#[]⟩ a c [M.ofInt 1, .mk 5 false 0 ⟨#[]⟩ none 0 [] none 0 []] none 0 []).val] W fun e w' => e = .returned (.int .i64 2) ∧ Fresh W w') := fun W a c hr => by
    have := depth_any (M.mk 4 false 0 ⟨#[]⟩ a c [M.ofInt 1, .mk 5 false 0 ⟨#[]⟩ none 0 [] none 0 []] none 0 []) W
      (.mk (by decide) hr (.nil W) (by simp) (by simp) (fun _ h => by cases h) (fun m hm => by
        rcases List.mem_cons.1 hm with rfl | hm
        · exact at_flat W (by decide)
        · rw [List.mem_singleton] at hm; subst hm; exact at_flat W (by decide)) (fun _ h => by cases h)) (by simp [M.plain, plainL, plainK, M.ofInt, V.size, sizeL, sizeK])
    have e : (M.mk 4 false 0 ⟨#[]⟩ a c [M.ofInt 1, .mk 5 false 0 ⟨#[]⟩ none 0 [] none 0 []] none 0 []).plain.depth = 2 := by simp [M.plain, plainL, plainK, M.ofInt, V.depth, depthL, depthK]
    rw [e] at this
    exact this
  have HW5 := Lib.hid (fun W => of_any ⟨#[120]⟩ W)
  have HW6 : Hid (∀ W, Tabs W → Calls Tryz.prog 43 #[(M.ofText ⟨#[120]⟩).val] W fun e w' => e = .returned (.int .i64 0) ∧ Fresh W w') := fun W hT => by
    have := check_any (M.ofText ⟨#[120]⟩) W hT (at_flat W (by decide))
    have e : (M.ofText ⟨#[120]⟩).plain.check = 0 := by
      have h1 : (M.ofText ⟨#[120]⟩).plain.depth = 0 := by simp [M.ofText, M.plain, V.depth]
      have h2 : (M.ofText ⟨#[120]⟩).plain.own = 0 := by
        have : textW ⟨#[120]⟩ = 0 := by
          unfold textW
          rw [if_pos (by decide), if_neg (by decide)]
        simp [M.ofText, M.plain, V.own, V.kind, V.text, this]
      rw [V.check, h1, if_neg (by omega), wrong_eq, h2, if_neg (by simp)]
      simp [M.ofText, M.plain, V.inside, V.kind, wrongL]
    rw [e] at this
    exact this
  have HT := Lib.hid hT
  clear hT
  dsimp only [M.val, M.ofInt, M.ofText, List.length_nil, List.length_cons] at HW1 HW2 HW3 HW4 HW5 HW6
  go_enter Tryz.func18, Tryz.ntmps18
  go_wp2_with fail
  refine (HW1.out _).mono ?_
  rintro e w1 ⟨rfl, hf1⟩
  have HF1 := Lib.hid hf1
  clear hf1
  go_wp2_with fail
  refine (HW2.out _).mono ?_
  rintro e w2 ⟨rfl, hf2⟩
  have HF2 := Lib.hid (HF1.out.trans hf2)
  clear hf2
  go_wp2_with fail
  refine (HW3.out _ _ (at_new w2 _)).mono ?_
  rintro e w3 ⟨⟨a, c, rfl, hr⟩, hf3⟩
  have HF3 := Lib.hid ((HF2.out.alloc _).trans hf3)
  have HR := Lib.hid hr
  clear hf3 hr
  go_wp2_with fail
  refine (HW4.out _ a c HR.out).mono ?_
  rintro e w4 ⟨rfl, hf4⟩
  have HF4 := Lib.hid (HF3.out.trans hf4)
  clear hf4
  go_wp2_with fail
  refine (HW5.out _).mono ?_
  rintro e w5 ⟨rfl, hf5⟩
  have HF5 := Lib.hid (HF4.out.trans hf5)
  clear hf5
  go_wp2_with fail
  refine (HW6.out _ (HT.out.move HF5.out)).mono ?_
  rintro e w6 ⟨rfl, hf6⟩
  go_wp2
  go_ret
  exact ⟨rfl, HF5.out.trans hf6⟩
end Go.Proofs.YthhdadfnkdjmkaaGreatDoor.v
namespace Go.Proofs.YthhdadfnkdjmkaaGreatDoor.v
open Go.ChangeShapes Go.WideShapes Go.ChangeAt Go.RowKit
/-- Clone of a row of pairs: a row of the call's own. -/
theorem pclone_any (l : List (ByteArray × M)) (g c : Nat) (w : World) (h : RowAt w (some ⟨g, 0, none⟩) (pcells l)) (hne : 0 < l.length) (hl : l.length ≤ 1000000) :
    Calls Tryz.prog 46 #[.slice (some ⟨g, 0, none⟩) l.length c] w fun e w' => (∃ a c', e = .returned (.slice a l.length c') ∧ RowAt w' a (pcells l) ∧ ∀ ad : Addr, a = some ad → w.heap.size ≤ ad.block) ∧ Fresh w w' := by
  obtain ⟨i0, z0, hi, hz0, hzc, hz1, hz2⟩ := info_seven info54
  have hbox : ∀ j x, (pcells l)[j]? = some x → (w.alloc (.cells #[] 54)).cell? ((⟨g, 0, none⟩ : Addr).add j) = some x := fun j x hj => by
    rw [addr_add0]
    rcases h with ⟨e, _⟩ | ⟨g', e, h⟩
    · cases e
    · cases e
      exact ((Fresh.refl w).alloc _).cell (h j x hj)
  have hone : ∀ u ∈ pcells l, u.oneCell' = true := fun u hu => by
    unfold pcells at hu
    rw [List.mem_flatMap] at hu
    obtain ⟨m, _, hu⟩ := hu
    rcases List.mem_cons.1 hu with rfl | hu
    · rfl
    · exact cells_one m.2 u hu
  have hown : Hid ((w.alloc (.cells #[] 54)).ownsRow w.heap.size 54 7 (.slice (some ⟨w.heap.size, 0, none⟩) 0 0) 0 []) :=
    ⟨rfl, .inr ⟨w.heap.size, 0, #[], rfl, Nat.le_refl _, at_new w _, Nat.le_refl _, by unfold maxLen; omega, rfl, rfl⟩⟩
  have HB := Lib.hid hbox
  have HO := Lib.hid hone
  have hlen : Hid ((pcells l).length = l.length * 7) := pcells_length l
  have hm1 : 0 + l.length ≤ maxLen := by unfold maxLen; omega
  have hm2 : (0 + l.length) * 104 ≤ 140737488355328 := by omega
  have hnil := fun w => Lib.run_eql_slice_nil (P := Tryz.prog) w 25 54 (some ⟨g, 0, none⟩) l.length c 0 0 Tryz.underlying25
  clear h hbox hone
  go_enter Tryz.func46, Tryz.ntmps46
  go_wp2_with (first
    | (at_builtin; refine wpList_append_lies _ rfl _ _ 25 rfl w.heap.size 54 i0 _ 7 104 Tryz.underlying25 hi hz0 hz1 hz2 hzc (by decide) (.slice (some ⟨w.heap.size, 0, none⟩) 0 0) 0 [] rfl hown.out ⟨g, 0, none⟩ l.length c (pcells l) rfl hlen.out HB.out HO.out hne hm1 hm2 (by rw [World.size_alloc]; omega) _ rfl ?_; intro g' cap' w5 hown5 hgrow5 hat5 hlt5; have HW := Lib.hid hown5; have HG := Lib.hid hgrow5; clear hown5 hgrow5 hat5 hlt5)
    | go_in)
  go_ret
  exact ⟨⟨some ⟨g', 0, none⟩, cap', rfl, RowAt.owns HW.out, fun ad h => by cases h; exact (HW.out.lt g' rfl).1⟩, ((Fresh.refl w).alloc _).grown HG.out (fun k e => by cases e; exact Nat.le_refl _)⟩
theorem map_any (l : List (ByteArray × M)) (g c : Nat) (w : World) (h : RowAt w (some ⟨g, 0, none⟩) (pcells l)) (hne : 0 < l.length) (hl : l.length ≤ 1000000) :
    Calls Tryz.prog 21 #[.slice (some ⟨g, 0, none⟩) l.length c] w fun e w' => (∃ a c', e = .returned (M.mk 5 false 0 ⟨#[]⟩ none 0 [] a c' l).val ∧ RowAt w' a (pcells l)) ∧ Fresh w w' := by
  have HQ := Lib.hid (pclone_any l g c (w.alloc (.cells #[.int .i64 0, .bool false, .int .i64 0, .string ⟨#[]⟩, .slice none 0 0, .slice none 0 0] 27)) (h.move ((Fresh.refl w).alloc _)) hne hl)
  clear h hne hl
  dsimp only [M.val, List.length_nil]
  generalize l.length = ln at *
  go_enter Tryz.func21, Tryz.ntmps21
  go_wp2_with fail
  refine HQ.out.mono ?_
  rintro e w1 ⟨⟨a, c', rfl, hr, hsep⟩, hf⟩
  have hb := hf.at (at_new w _)
  have hF := Lib.hid (((Fresh.refl w).alloc _).trans hf)
  have HR := Lib.hid hr
  have HB := Lib.hid hb
  obtain ⟨b0, b1, b2, b3, b4, b5⟩ := box6' hb
  have hz : w.heap.size < w1.heap.size := World.block_lt_of_cell? w1 _ b0
  have z0 : w1.frozen? ⟨w.heap.size, 0, none⟩ = false := by simp [World.frozen?, hb]
  have z1 : w1.frozen? ⟨w.heap.size, 1, none⟩ = false := by simp [World.frozen?, hb]
  have z2 : w1.frozen? ⟨w.heap.size, 2, none⟩ = false := by simp [World.frozen?, hb]
  have z3 : w1.frozen? ⟨w.heap.size, 3, none⟩ = false := by simp [World.frozen?, hb]
  have z4 : w1.frozen? ⟨w.heap.size, 4, none⟩ = false := by simp [World.frozen?, hb]
  have z5 : w1.frozen? ⟨w.heap.size, 5, none⟩ = false := by simp [World.frozen?, hb]
  have HSEP := Lib.hid hsep
  clear hf hr hb hsep
  go_wp2
  refine bodyPost_ret (v := mval 5 false 0 ⟨#[]⟩ none 0 0 a ln c') (by simp [results, Tryz.results21, go_sem, *]) rfl ⟨⟨a, c', rfl, ?_⟩, ?_⟩
  · refine HR.out.grown (grown_setCells w.heap.size [.int .i64 5, .bool false, .int .i64 0, .string ⟨#[]⟩, .slice none 0 0, .slice a ln c'] 0 w1) (fun ad e h => ?_)
    have := HSEP.out ad e
    rw [World.size_alloc] at this
    injection h with h
    omega
  · exact Fresh.setCells (Nat.le_refl _) [.int .i64 5, .bool false, .int .i64 0, .string ⟨#[]⟩, .slice none 0 0, .slice a ln c'] 0 hF.out
end Go.Proofs.YthhdadfnkdjmkaaGreatDoor.v
namespace Go.Proofs.YthhdadfnkdjmkaaGreatDoor.v
open Go.ChangeShapes Go.WideShapes Go.ChangeAt Go.RowKit
attribute [local go_sem ↓] Go.wp_at_zero Go.wp_at_succ
variable {w : World}
theorem row_own (l : List M) (g c : Nat) (w : World) (h : RowAt w (some ⟨g, 0, none⟩) (mcells l)) (hne : 0 < l.length) (hl : l.length ≤ 1000000) :
    Calls Tryz.prog 22 #[.slice (some ⟨g, 0, none⟩) l.length c] w fun e w' => (∃ a c', e = .returned (M.mk 4 false 0 ⟨#[]⟩ a c' l none 0 []).val ∧ RowAt w' a (mcells l) ∧ ∀ ad : Addr, a = some ad → w.heap.size ≤ ad.block) ∧ Fresh w w' := by
  have HQ := Lib.hid (clone_any l g c (w.alloc (.cells #[.int .i64 0, .bool false, .int .i64 0, .string ⟨#[]⟩, .slice none 0 0, .slice none 0 0] 27)) (h.move ((Fresh.refl w).alloc _)) hne hl)
  clear h hne hl
  dsimp only [M.val, List.length_nil]
  generalize l.length = ln at *
  go_enter Tryz.func22, Tryz.ntmps22
  go_wp2_with fail
  refine HQ.out.mono ?_
  rintro e w1 ⟨⟨a, c', rfl, hr, hsep⟩, hf⟩
  have hb := hf.at (at_new w _)
  have hF := Lib.hid (((Fresh.refl w).alloc _).trans hf)
  have HR := Lib.hid hr
  have HB := Lib.hid hb
  obtain ⟨b0, b1, b2, b3, b4, b5⟩ := box6' hb
  have hz : w.heap.size < w1.heap.size := World.block_lt_of_cell? w1 _ b0
  have z0 : w1.frozen? ⟨w.heap.size, 0, none⟩ = false := by simp [World.frozen?, hb]
  have z1 : w1.frozen? ⟨w.heap.size, 1, none⟩ = false := by simp [World.frozen?, hb]
  have z2 : w1.frozen? ⟨w.heap.size, 2, none⟩ = false := by simp [World.frozen?, hb]
  have z3 : w1.frozen? ⟨w.heap.size, 3, none⟩ = false := by simp [World.frozen?, hb]
  have z4 : w1.frozen? ⟨w.heap.size, 4, none⟩ = false := by simp [World.frozen?, hb]
  have z5 : w1.frozen? ⟨w.heap.size, 5, none⟩ = false := by simp [World.frozen?, hb]
  have HSEP := Lib.hid hsep
  clear hf hr hb hsep
  go_wp2
  refine bodyPost_ret (v := mval 4 false 0 ⟨#[]⟩ a ln c' none 0 0) (by simp [results, Tryz.results22, go_sem, *]) rfl ⟨⟨a, c', rfl, ?_, fun ad e => by have := HSEP.out ad e; rw [World.size_alloc] at this; omega⟩, ?_⟩
  · refine HR.out.grown (grown_setCells w.heap.size [.int .i64 4, .bool false, .int .i64 0, .string ⟨#[]⟩, .slice a ln c', .slice none 0 0] 0 w1) (fun ad e h => ?_)
    have := HSEP.out ad e
    rw [World.size_alloc] at this
    injection h with h
    omega
  · exact Fresh.setCells (Nat.le_refl _) [.int .i64 4, .bool false, .int .i64 0, .string ⟨#[]⟩, .slice a ln c', .slice none 0 0] 0 hF.out
theorem map_own (l : List (ByteArray × M)) (g c : Nat) (w : World) (h : RowAt w (some ⟨g, 0, none⟩) (pcells l)) (hne : 0 < l.length) (hl : l.length ≤ 1000000) :
    Calls Tryz.prog 21 #[.slice (some ⟨g, 0, none⟩) l.length c] w fun e w' => (∃ a c', e = .returned (M.mk 5 false 0 ⟨#[]⟩ none 0 [] a c' l).val ∧ RowAt w' a (pcells l) ∧ ∀ ad : Addr, a = some ad → w.heap.size ≤ ad.block) ∧ Fresh w w' := by
  have HQ := Lib.hid (pclone_any l g c (w.alloc (.cells #[.int .i64 0, .bool false, .int .i64 0, .string ⟨#[]⟩, .slice none 0 0, .slice none 0 0] 27)) (h.move ((Fresh.refl w).alloc _)) hne hl)
  clear h hne hl
  dsimp only [M.val, List.length_nil]
  generalize l.length = ln at *
  go_enter Tryz.func21, Tryz.ntmps21
  go_wp2_with fail
  refine HQ.out.mono ?_
  rintro e w1 ⟨⟨a, c', rfl, hr, hsep⟩, hf⟩
  have hb := hf.at (at_new w _)
  have hF := Lib.hid (((Fresh.refl w).alloc _).trans hf)
  have HR := Lib.hid hr
  have HB := Lib.hid hb
  obtain ⟨b0, b1, b2, b3, b4, b5⟩ := box6' hb
  have hz : w.heap.size < w1.heap.size := World.block_lt_of_cell? w1 _ b0
  have z0 : w1.frozen? ⟨w.heap.size, 0, none⟩ = false := by simp [World.frozen?, hb]
  have z1 : w1.frozen? ⟨w.heap.size, 1, none⟩ = false := by simp [World.frozen?, hb]
  have z2 : w1.frozen? ⟨w.heap.size, 2, none⟩ = false := by simp [World.frozen?, hb]
  have z3 : w1.frozen? ⟨w.heap.size, 3, none⟩ = false := by simp [World.frozen?, hb]
  have z4 : w1.frozen? ⟨w.heap.size, 4, none⟩ = false := by simp [World.frozen?, hb]
  have z5 : w1.frozen? ⟨w.heap.size, 5, none⟩ = false := by simp [World.frozen?, hb]
  have HSEP := Lib.hid hsep
  clear hf hr hb hsep
  go_wp2
  refine bodyPost_ret (v := mval 5 false 0 ⟨#[]⟩ none 0 0 a ln c') (by simp [results, Tryz.results21, go_sem, *]) rfl ⟨⟨a, c', rfl, ?_, fun ad e => by have := HSEP.out ad e; rw [World.size_alloc] at this; omega⟩, ?_⟩
  · refine HR.out.grown (grown_setCells w.heap.size [.int .i64 5, .bool false, .int .i64 0, .string ⟨#[]⟩, .slice none 0 0, .slice a ln c'] 0 w1) (fun ad e h => ?_)
    have := HSEP.out ad e
    rw [World.size_alloc] at this
    injection h with h
    omega
  · exact Fresh.setCells (Nat.le_refl _) [.int .i64 5, .bool false, .int .i64 0, .string ⟨#[]⟩, .slice none 0 0, .slice a ln c'] 0 hF.out
theorem vclone_nil (w : World) : Calls Tryz.prog 47 #[.slice none 0 0] w fun e w' => e = .returned (.slice none 0 0) ∧ w = w' := by
  have hnil := fun w => Lib.run_eql_slice_nil (P := Tryz.prog) w 24 27 none 0 0 0 0 Tryz.underlying24
  go_enter Tryz.func47, Tryz.ntmps47
  go_wp2
  go_ret
  exact ⟨rfl, rfl⟩
theorem row_nil (w : World) : Calls Tryz.prog 22 #[.slice none 0 0] w fun e w' => e = .returned (M.mk 4 false 0 ⟨#[]⟩ none 0 [] none 0 []).val ∧ Fresh w w' := by
  go_enter Tryz.func22, Tryz.ntmps22
  go_wp2_with fail
  refine (vclone_nil _).mono ?_
  rintro e w1 ⟨rfl, rfl⟩
  go_wp2
  exact bodyPost_ret (v := (M.mk 4 false 0 ⟨#[]⟩ none 0 [] none 0 []).val) (by simp [results, Tryz.results22, go_sem, M.val]) rfl ⟨rfl, (Fresh.refl w).alloc _⟩
end Go.Proofs.YthhdadfnkdjmkaaGreatDoor.v
namespace Go.Proofs.YthhdadfnkdjmkaaGreatDoor.y
open Go.ChangeShapes Go.WideShapes Go.ChangeAt Go.RowKit
attribute [local go_sem ↓] Go.wp_at_zero Go.wp_at_succ
variable {w : World}
/-- A value without parts, as it lies. -/
def flatM (x : v.V) : v.M := .mk x.kind x.flag x.num x.text none 0 [] none 0 []
/-- What a scalar comes to: the code, the value. -/
def ScIs (w : World) (line : Nat) (x : Int × v.V) (e : Ending) (w' : World) : Prop :=
  (x.1 ≠ 0 → Panics line x.1 e) ∧ (x.1 = 0 → e = .returned (flatM x.2).val) ∧ Fresh w w'
theorem ScIs.bad {w : World} {line : Nat} {x : Int × v.V} {e : Ending} {w' : World} (hx : x.1 ≠ 0) (h : Panics line x.1 e) (f : Fresh w w') : ScIs w line x e w' := ⟨fun _ => h, fun k => absurd k hx, f⟩
theorem ScIs.ok {w : World} {line : Nat} {x : Int × v.V} {e : Ending} {w' : World} (hx : x.1 = 0) (h : e = .returned (flatM x.2).val) (f : Fresh w w') : ScIs w line x e w' := ⟨fun k => absurd hx k, fun _ => h, f⟩
theorem quoM_bad (q : List UInt8) (h : (unqF (34 :: q)).2.2 ≠ 0) : quoM (34 :: q) = ((unqF (34 :: q)).2.2, zV) := by rw [quoM, if_pos h]
theorem quoM_ok (q : List UInt8) (h : (unqF (34 :: q)).2.2 = 0) (hd : (34 :: q).drop (unqF (34 :: q)).2.1 = []) : quoM (34 :: q) = (0, vText (unqF (34 :: q)).1) := by
  have h1 := List.drop_eq_nil_iff.1 hd
  have h2 := unq_le q
  rw [quoM, if_neg (by simp [h]), if_pos (by omega)]
theorem quoM_more (q : List UInt8) (h : (unqF (34 :: q)).2.2 = 0) (hd : (34 :: q).drop (unqF (34 :: q)).2.1 ≠ []) : quoM (34 :: q) = (6, zV) := by
  rw [quoM, if_neg (by simp [h]), if_neg (fun e => hd (by rw [e, List.drop_length]))]
set_option maxHeartbeats 1000000 in
theorem quotedText_any (b : Nat) (R : List Rw) (line : Nat) (q : List UInt8) (w : World) (h : Rdr w b R line) (hE : Env w) (hq : q.length ≤ 90000) :
    Calls Tryz.prog 140 #[.pointer (some ⟨b, 0, none⟩), .string (tx (34 :: q))] w (ScIs w line (quoM (34 :: q))) := by
  have HU : Hid (∀ W : World, Fresh w W → Calls Tryz.prog 138 #[.pointer (some ⟨b, 0, none⟩), .string (tx (34 :: q))] W (UnqIs W line q)) := fun W f => unquoted_any b R line q W (h.move f) (hE.move f) hq
  have HR := Lib.hid h
  have HB := Lib.hid (VBox.new w)
  have HF0 := Lib.hid ((Fresh.refl w).alloc (.cells zcells 27 (0, 0)))
  unfold UnqIs at HU
  by_cases hc : (unqF (34 :: q)).2.2 = 0
  · have HU1 : Hid (∀ W : World, Fresh w W → Calls Tryz.prog 138 #[.pointer (some ⟨b, 0, none⟩), .string (tx (34 :: q))] W fun e w' => e = .returned (.tuple #[.string (tx (unqF (34 :: q)).1), .string (tx ((34 :: q).drop (unqF (34 :: q)).2.1))]) ∧ Fresh W w') :=
      fun W f => (HU.out W f).mono fun e w' k => by rw [if_neg (by simp [hc])] at k; exact k
    have H1 := Lib.hid (quoM_ok q hc)
    have H2 := Lib.hid (quoM_more q hc)
    clear HU h hE hq hc
    generalize (34 :: q).drop (unqF (34 :: q)).2.1 = d at *
    generalize quoM (34 :: q) = x at *
    generalize (unqF (34 :: q)).1 = t at *
    generalize tx (34 :: q) = s at *
    cases d with
    | nil =>
      obtain rfl := H1.out rfl
      have e1 : (tx []).toList.isEmpty = true := by rw [tx_list]; rfl
      refine Calls.mono (R := fun e w' => e = .returned (flatM (vText t)).val ∧ Fresh w w') ?_ (fun e w' k => .ok rfl k.1 k.2)
      have HO : Hid (∀ W : World, Calls Tryz.prog 42 #[.string (tx t)] W fun e w' => e = .returned (.agg #[.int .i64 3, .bool false, .int .i64 0, .string (tx t), .slice none 0 0, .slice none 0 0]) ∧ Fresh W w') := fun W => v.of_any (tx t) W
      have HV : Hid ((flatM (vText t)).val = .agg #[.int .i64 3, .bool false, .int .i64 0, .string (tx t), .slice none 0 0, .slice none 0 0]) := rfl
      rw [HV.out]
      clear H1 H2 HR HV
      generalize tx [] = sd at *
      generalize tx t = st at *
      go_enter Tryz.func140, Tryz.ntmps140
      go_wp2_with fail
      generalize w.alloc (.cells zcells 27 (0, 0)) = w0 at *
      generalize hsz : w.heap.size = sz at *
      have HSZ := Lib.hid hsz
      clear hsz
      refine (HU1.out _ HF0.out).mono ?_
      rintro e w1 ⟨rfl, hf⟩
      have HF1 := Lib.hid hf
      clear hf
      go_wp2_with fail
      refine (HO.out _).mono ?_
      rintro e w2 ⟨rfl, hf⟩
      obtain ⟨c0, c1, c2, c3, c4, c5, f, lt⟩ := ((HB.out.move HF1.out).move hf).facts
      have HF2 := Lib.hid (HF1.out.trans hf)
      have f0 := f 0; have f1 := f 1; have f2 := f 2; have f3 := f 3; have f4 := f 4; have f5 := f 5
      clear hf f
      go_wp2
      refine bodyPost_ret (v := .agg #[.int .i64 3, .bool false, .int .i64 0, .string st, .slice none 0 0, .slice none 0 0]) (by simp [results, Tryz.results140, go_sem, *]) rfl ⟨rfl, ?_⟩
      exact Wr.toFresh (p := fun k => w.heap.size ≤ k) (((Wr.of_fresh HF0.out).fresh HF2.out).set6 (.inl (Nat.le_of_eq HSZ.out)) _ _ _ _ _ _) (fun k hk h => by omega)
    | cons c r =>
      obtain rfl := H2.out (by simp)
      have e1 : (tx (c :: r)).toList.isEmpty = false := by rw [tx_list]; rfl
      refine Calls.mono (R := fun e w' => Panics line 6 e ∧ Fresh w w') ?_ (fun e w' k => .bad (by decide) k.1 k.2)
      have HW : Hid (∀ W : World, Fresh w W → Calls Tryz.prog 54 #[.pointer (some ⟨b, 0, none⟩), .int .i64 6] W fun e w' => e = .returned (misV line 6) ∧ Fresh W w') := fun W f => wrong_any b R line 6 W (HR.out.move f)
      clear H1 H2 HR
      generalize tx (c :: r) = sd at *
      generalize tx t = st at *
      go_enter Tryz.func140, Tryz.ntmps140
      go_wp2_with fail
      refine (HU1.out _ HF0.out).mono ?_
      rintro e w1 ⟨rfl, hf⟩
      have HF1 := Lib.hid (HF0.out.trans hf)
      clear hf
      go_wp2_with (go_at_call 54; refine (HW.out _ HF1.out).mono ?_; rintro e w2 ⟨rfl, hf⟩; have HF2 := Lib.hid hf; clear hf)
      exact ⟨rfl, rfl, HF1.out.trans HF2.out⟩
  · have HU1 : Hid (∀ W : World, Fresh w W → Calls Tryz.prog 138 #[.pointer (some ⟨b, 0, none⟩), .string (tx (34 :: q))] W fun e w' => Panics line (unqF (34 :: q)).2.2 e ∧ Fresh W w') :=
      fun W f => (HU.out W f).mono fun e w' k => by rw [if_pos hc] at k; exact k
    have HX := Lib.hid (quoM_bad q hc)
    rw [HX.out]
    refine Calls.mono (R := fun e w' => Panics line (unqF (34 :: q)).2.2 e ∧ Fresh w w') ?_ (fun e w' k => .bad hc k.1 k.2)
    clear HU HX h hE hq hc HR
    generalize (unqF (34 :: q)).2.2 = x at *
    generalize tx (34 :: q) = s at *
    go_enter Tryz.func140, Tryz.ntmps140
    go_wp2_with fail
    refine (HU1.out _ HF0.out).mono ?_
    rintro e w1 ⟨hp, hf⟩
    have HF1 := Lib.hid (HF0.out.trans hf)
    clear hf
    unfold Panics at hp
    subst hp
    go_wp2
    exact ⟨rfl, rfl, HF1.out⟩
end Go.Proofs.YthhdadfnkdjmkaaGreatDoor.y
namespace Go.Proofs.YthhdadfnkdjmkaaGreatDoor.y
open Go.ChangeShapes Go.WideShapes Go.ChangeAt Go.RowKit
attribute [local go_sem ↓] Go.wp_at_zero Go.wp_at_succ
variable {w : World}
theorem set6_fresh {W w0 w2 : World} {g : Nat} (h : Fresh W w0) (f : Fresh w0 w2) (hg : W.heap.size = g) (u0 u1 u2 u3 u4 u5 : Value) :
    Fresh W ((((((w2.setCell ⟨g, 0, none⟩ u0).setCell ⟨g, 1, none⟩ u1).setCell ⟨g, 2, none⟩ u2).setCell ⟨g, 3, none⟩ u3).setCell ⟨g, 4, none⟩ u4).setCell ⟨g, 5, none⟩ u5) :=
  Wr.toFresh (p := fun k => W.heap.size ≤ k) (((Wr.of_fresh h).fresh f).set6 (.inl (Nat.le_of_eq hg)) _ _ _ _ _ _) (fun k hk h => by omega)
theorem start_cons (c : UInt8) (r : List UInt8) : startB ((c :: r).headD 0) = (decide (c.toNat = 45) || digB c) := by
  show startB c = _
  unfold startB digB
  rw [Bool.eq_iff_iff]; simp
set_option maxHeartbeats 2000000 in
theorem word_any (b : Nat) (R : List Rw) (line : Nat) (c : UInt8) (r : List UInt8) (w : World) (h : Rdr w b R line) (hE : Env w) (hl : (c :: r).length ≤ 90000) :
    Calls Tryz.prog 141 #[.pointer (some ⟨b, 0, none⟩), .string (tx (c :: r))] w (ScIs w line (wordM (c :: r))) := by
  have HW : Hid (∀ (x : Int) (W : World), Fresh w W → Calls Tryz.prog 54 #[.pointer (some ⟨b, 0, none⟩), .int .i64 x] W fun e w' => e = .returned (misV line x) ∧ Fresh W w') := fun x W f => wrong_any b R line x W (h.move f)
  have HB := Lib.hid (VBox.new w)
  have HF0 := Lib.hid ((Fresh.refl w).alloc (.cells zcells 27 (0, 0)))
  have HD := Lib.hid (fun W => isDigit_any c W)
  obtain ⟨p1, p2, p3, p4⟩ : Cons (tx (c :: r)) c (tx r) := bs_cons c r
  have hsz : (tx (c :: r)).size = (c :: r).length := tx_size _
  have HS := Lib.hid (start_cons c r)
  clear p3 p4
  cases hst : startB ((c :: r).headD 0) with
  | true =>
    have HJ : Hid (∀ W : World, Fresh w W → Calls Tryz.prog 98 #[.string (tx (c :: r))] W fun e w' => e = .returned (.tuple #[.int .i64 (wholeV (c :: r)), .int .i64 (wholeE (c :: r))]) ∧ Fresh W w') := fun W f => by
      have := whole_any (tx (c :: r)) W (by rw [hsz]; omega) (hE.rng.move f)
      rw [tx_toList] at this
      exact this
    have HV : Hid (∀ W : World, Calls Tryz.prog 23 #[.int .i64 (wholeV (c :: r))] W fun e w' => e = .returned (.agg #[.int .i64 2, .bool false, .int .i64 (wholeV (c :: r)), .string ⟨#[]⟩, .slice none 0 0, .slice none 0 0]) ∧ Fresh W w') := fun W => v.whole_any (wholeV (c :: r)) W
    have HM : Hid (wordM (c :: r) = if wholeE (c :: r) ≠ 0 then (wholeE (c :: r), zV) else (0, vInt (wholeV (c :: r)))) := by rw [Hid, wordM, if_pos hst]
    have HQ : Hid ((decide (c.toNat = 45) || digB c) = true) := by rw [Hid, ← HS.out]; exact hst
    rw [HM.out]
    clear HM HS hst h hE hl hsz
    generalize wholeV (c :: r) = wv at *
    generalize wholeE (c :: r) = we at *
    generalize tx (c :: r) = s at *
    by_cases hwe : we = 0
    · refine Calls.mono (R := fun e w' => e = .returned (.agg #[.int .i64 2, .bool false, .int .i64 wv, .string ⟨#[]⟩, .slice none 0 0, .slice none 0 0]) ∧ Fresh w w') ?_ (fun e w' k => by rw [if_neg (by simp [hwe])]; exact .ok rfl k.1 k.2)
      subst hwe
      by_cases h45 : c.toNat = 45
      · have g1 : ((c.toNat : Int) == 45) = true := by simp; omega
        clear h45 HQ HD
        go_enter Tryz.func141, Tryz.ntmps141
        go_wp2_with fail
        generalize w.alloc (.cells zcells 27 (0, 0)) = w0 at *
        generalize hsz : w.heap.size = sz at *
        have HSZ := Lib.hid hsz
        clear hsz
        refine (HJ.out _ HF0.out).mono ?_
        rintro e w1 ⟨rfl, hf⟩
        have HF1 := Lib.hid hf
        clear hf
        go_wp2_with fail
        refine (HV.out _).mono ?_
        rintro e w2 ⟨rfl, hf⟩
        obtain ⟨c0, c1, c2, c3, c4, c5, f, lt⟩ := ((HB.out.move HF1.out).move hf).facts
        have HF2 := Lib.hid (HF1.out.trans hf)
        have f0 := f 0; have f1 := f 1; have f2 := f 2; have f3 := f 3; have f4 := f 4; have f5 := f 5
        clear hf f
        go_wp2
        refine bodyPost_ret (v := .agg #[.int .i64 2, .bool false, .int .i64 wv, .string ⟨#[]⟩, .slice none 0 0, .slice none 0 0]) (by simp [results, Tryz.results141, go_sem, *]) rfl ⟨rfl, ?_⟩
        exact set6_fresh HF0.out HF2.out HSZ.out _ _ _ _ _ _
      · have g1 : ((c.toNat : Int) == 45) = false := by simp; omega
        have hd : digB c = true := by have h1 := HQ.out; rw [decide_eq_false h45, Bool.false_or] at h1; exact h1
        rw [hd] at HD
        clear h45 HQ hd
        go_enter Tryz.func141, Tryz.ntmps141
        go_wp2_with (go_at_call 64; refine (HD.out _).mono ?_; rintro e w' ⟨rfl, rfl⟩)
        generalize w.alloc (.cells zcells 27 (0, 0)) = w0 at *
        generalize hsz : w.heap.size = sz at *
        have HSZ := Lib.hid hsz
        clear hsz
        refine (HJ.out _ HF0.out).mono ?_
        rintro e w1 ⟨rfl, hf⟩
        have HF1 := Lib.hid hf
        clear hf
        go_wp2_with fail
        refine (HV.out _).mono ?_
        rintro e w2 ⟨rfl, hf⟩
        obtain ⟨c0, c1, c2, c3, c4, c5, f, lt⟩ := ((HB.out.move HF1.out).move hf).facts
        have HF2 := Lib.hid (HF1.out.trans hf)
        have f0 := f 0; have f1 := f 1; have f2 := f 2; have f3 := f 3; have f4 := f 4; have f5 := f 5
        clear hf f
        go_wp2
        refine bodyPost_ret (v := .agg #[.int .i64 2, .bool false, .int .i64 wv, .string ⟨#[]⟩, .slice none 0 0, .slice none 0 0]) (by simp [results, Tryz.results141, go_sem, *]) rfl ⟨rfl, ?_⟩
        exact set6_fresh HF0.out HF2.out HSZ.out _ _ _ _ _ _
    · refine Calls.mono (R := fun e w' => Panics line we e ∧ Fresh w w') ?_ (fun e w' k => by rw [if_pos hwe]; exact .bad hwe k.1 k.2)
      have hx1 : (we == 0) = false := by simpa using hwe
      have hx2 : (we != 0) = true := by simpa using hwe
      clear hwe HB
      by_cases h45 : c.toNat = 45
      · have g1 : ((c.toNat : Int) == 45) = true := by simp; omega
        clear h45 HQ HD
        go_enter Tryz.func141, Tryz.ntmps141
        go_wp2_with fail
        refine (HJ.out _ HF0.out).mono ?_
        rintro e w1 ⟨rfl, hf⟩
        have HF1 := Lib.hid (HF0.out.trans hf)
        clear hf
        go_wp2_with (go_at_call 54; refine (HW.out _ _ HF1.out).mono ?_; rintro e w2 ⟨rfl, hf⟩; have HF2 := Lib.hid hf; clear hf)
        exact ⟨rfl, rfl, HF1.out.trans HF2.out⟩
      · have g1 : ((c.toNat : Int) == 45) = false := by simp; omega
        have hd : digB c = true := by have h1 := HQ.out; rw [decide_eq_false h45, Bool.false_or] at h1; exact h1
        rw [hd] at HD
        clear h45 HQ hd
        go_enter Tryz.func141, Tryz.ntmps141
        go_wp2_with (go_at_call 64; refine (HD.out _).mono ?_; rintro e w' ⟨rfl, rfl⟩)
        refine (HJ.out _ HF0.out).mono ?_
        rintro e w1 ⟨rfl, hf⟩
        have HF1 := Lib.hid (HF0.out.trans hf)
        clear hf
        go_wp2_with (go_at_call 54; refine (HW.out _ _ HF1.out).mono ?_; rintro e w2 ⟨rfl, hf⟩; have HF2 := Lib.hid hf; clear hf)
        exact ⟨rfl, rfl, HF1.out.trans HF2.out⟩
  | false =>
    have HM : Hid (wordM (c :: r) = if 4096 < (c :: r).length then (2, zV) else (0, vText (c :: r))) := by rw [Hid, wordM, if_neg (by rw [hst]; exact Bool.false_ne_true)]
    have HQ : Hid (c.toNat ≠ 45 ∧ digB c = false) := by
      have h1 : (decide (c.toNat = 45) || digB c) = false := HS.out.symm.trans hst
      rw [Bool.or_eq_false_iff] at h1
      exact ⟨of_decide_eq_false h1.1, h1.2⟩
    rw [HM.out]
    have g1 : ((c.toNat : Int) == 45) = false := by have := HQ.out.1; simp; omega
    rw [HQ.out.2] at HD
    clear HM HS hst h hE HQ
    by_cases hlong : 4096 < (c :: r).length
    · have g2 : 4096 < (tx (c :: r)).size := by rw [hsz]; exact hlong
      have g3 : (tx (c :: r)).size ≤ 90000 := by rw [hsz]; exact hl
      refine Calls.mono (R := fun e w' => Panics line 2 e ∧ Fresh w w') ?_ (fun e w' k => by rw [if_pos hlong]; exact .bad (by decide) k.1 k.2)
      clear hlong hsz hl HB
      generalize tx (c :: r) = s at *
      go_enter Tryz.func141, Tryz.ntmps141
      go_wp2_with (first | (go_at_call 64; refine (HD.out _).mono ?_; rintro e w' ⟨rfl, rfl⟩) | (go_at_call 54; refine (HW.out _ _ HF0.out).mono ?_; rintro e w2 ⟨rfl, hf⟩; have HF2 := Lib.hid hf; clear hf))
      exact ⟨rfl, rfl, HF0.out.trans HF2.out⟩
    · have g2 : ¬ 4096 < (tx (c :: r)).size := by rw [hsz]; exact hlong
      have g3 : (tx (c :: r)).size ≤ 4096 := by omega
      have HO : Hid (∀ W : World, Calls Tryz.prog 42 #[.string (tx (c :: r))] W fun e w' => e = .returned (.agg #[.int .i64 3, .bool false, .int .i64 0, .string (tx (c :: r)), .slice none 0 0, .slice none 0 0]) ∧ Fresh W w') := fun W => v.of_any (tx (c :: r)) W
      refine Calls.mono (R := fun e w' => e = .returned (.agg #[.int .i64 3, .bool false, .int .i64 0, .string (tx (c :: r)), .slice none 0 0, .slice none 0 0]) ∧ Fresh w w') ?_ (fun e w' k => by rw [if_neg hlong]; exact .ok rfl k.1 k.2)
      clear hlong hsz hl HW g2
      generalize tx (c :: r) = s at *
      go_enter Tryz.func141, Tryz.ntmps141
      go_wp2_with (go_at_call 64; refine (HD.out _).mono ?_; rintro e w' ⟨rfl, rfl⟩)
      generalize w.alloc (.cells zcells 27 (0, 0)) = w0 at *
      generalize hsz : w.heap.size = sz at *
      have HSZ := Lib.hid hsz
      clear hsz
      refine (HO.out _).mono ?_
      rintro e w2 ⟨rfl, hf⟩
      obtain ⟨c0, c1, c2, c3, c4, c5, f, lt⟩ := (HB.out.move hf).facts
      have HF2 := Lib.hid hf
      have f0 := f 0; have f1 := f 1; have f2 := f 2; have f3 := f 3; have f4 := f 4; have f5 := f 5
      clear hf f
      go_wp2
      refine bodyPost_ret (v := .agg #[.int .i64 3, .bool false, .int .i64 0, .string s, .slice none 0 0, .slice none 0 0]) (by simp [results, Tryz.results141, go_sem, *]) rfl ⟨rfl, ?_⟩
      exact set6_fresh HF0.out HF2.out HSZ.out _ _ _ _ _ _
end Go.Proofs.YthhdadfnkdjmkaaGreatDoor.y
