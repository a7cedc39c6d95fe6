/-
  Package yaml's reader: whatever block; the document.
  Package yaml: what Parse defers: a Mistake is caught.
  Package yaml's reader: the document.
  Package ylines: blanks, dashes, what may stand in a line; strings.Cut at a line feed.
  Package ylines: a range over a text's lines.
  A copy of a text is that text.
  Package ylines: a line's rows.
  Package ylines: what may stand in a line.
-/
import Derived.Test.YthhdadfnkdjmkaaGreatDoorCat20
import Derived.Defers
import Derived.Recover
import Derived.Test.YthhdadfnkdjmkaaGreatDoorCat01
import Derived.Test.YthhdadfnkdjmkaaGreatDoorCat04
import Derived.BigQuiet
import Derived.Shelf.RegionOpen
import Derived.RangeFuncNested
import Derived.RangeFuncBound
import Derived.RangeFuncCalls
import Derived.RangeFuncLeaves
import Derived.RangeFuncBox
import Derived.OwnWalkIn
import Derived.TacticsInMore
import Derived.LoopNIn
import Derived.LoopIn
import Derived.Lib.UnsafeStr
import Derived.Lib.BufferWrite
import Derived.Lib.Walk
import Derived.Laws.BitsAllLaws
import Derived.Test.YthhdadfnkdjmkaaGreatDoorCat07
namespace Go.Proofs.YthhdadfnkdjmkaaGreatDoor.y
open Go.ChangeShapes Go.WideShapes Go.ChangeAt Go.RowKit
attribute [local go_sem ↓] Go.wp_at_zero Go.wp_at_succ
variable {w : World}
theorem say_list (n : Nat) (ih : SayBlk n) : SayList n := fun we b r T ins ar w hE hwe hfe hsg hR hi hd har h => by
  unfold listM
  by_cases h32 : 32 ≤ ins
  · rw [if_pos h32]
    exact (list_deep b r T ins ar w h h32).mono fun e w' k => ⟨k.1, .of_fresh k.2⟩
  · rw [if_neg h32]
    exact list_go n ih we b r T ins ar w hE hwe hfe hsg hR (by omega) hd har h
theorem say_keys (n : Nat) (ih : SayBlk n) : SayKeys n := fun we b r T m ins ar w hE hwe hfe hsg hR hi hd he har h => by
  unfold keysM
  by_cases h32 : 32 ≤ ins
  · rw [if_pos h32]
    exact (keys_deep b r T m ins ar w h h32).mono fun e w' k => ⟨k.1, .of_fresh k.2⟩
  · rw [if_neg h32]
    exact keys_go n ih we b r T m ins ar w hE hwe hfe hsg hR (by omega) hd he har h
theorem blk_nil (ins : Nat) : blk [] ins = .ok zV := by rw [blk]
theorem blk_dash {r : Rw} {T : List Rw} {ins : Nat} (h : r.dash = true) : blk (r :: T) ins = if 32 ≤ ins then .error (r.line, 9) else items r.indent ins (r :: T) [] := by
  rw [blk.eq_def]; dsimp only; rw [if_pos h]
theorem blk_code {r : Rw} {T : List Rw} {ins : Nat} (h : r.dash = false) (hc : (entM r.text).1 ≠ 0) : blk (r :: T) ins = .error (r.line, (entM r.text).1) := by
  rw [blk.eq_def]; dsimp only; rw [if_neg (by simp [h]), if_pos hc]
theorem blk_keys {r : Rw} {T : List Rw} {ins : Nat} {m : Ent} (h : r.dash = false) (hc : entM r.text = (0, some m)) : blk (r :: T) ins = if 32 ≤ ins then .error (r.line, 9) else pairs r.indent ins (r :: T) [] := by
  rw [blk.eq_def]; dsimp only; rw [if_neg (by simp [h]), if_neg (by simp [hc]), if_pos (by rw [hc]; rfl)]
theorem blk_alone {r : Rw} {T : List Rw} {ins : Nat} (h : r.dash = false) (hc : entM r.text = (0, none)) : blk (r :: T) ins = if (scM r.text ins).1 ≠ 0 then .error (r.line, (scM r.text ins).1) else match T with
    | [] => .ok (scM r.text ins).2
    | r2 :: _ => .error (r2.line, 6) := by
  rw [blk.eq_def]; dsimp only; rw [if_neg (by simp [h]), if_neg (by simp [hc]), if_neg (by rw [hc]; simp)]
  cases T <;> rfl
theorem zero_blk {w w' : World} {b line : Nat} {R : List Rw} {e : Ending} (hr : Rdr w b R line) (he : e = .returned v.M.zero.val) (f : Fresh w w') : BlkIs w b (.ok zV) R e w' :=
  ⟨⟨v.M.zero, line, he, rfl, flat_new zV _ _ (by decide), hr.move f⟩, .of_fresh f⟩
theorem say_step (n : Nat) (ih : SayBlk n) : SayBlk (n + 1) := fun we b R line ins ar w hE hwe hfe hsg hR hi h => by
  cases hb : hasB ar R with
  | false =>
    obtain ⟨h1, h2⟩ := off_none hb
    rw [h1, h2, blk_nil]
    exact (block_none b R line ins ar w h hR hb).mono fun e w' k => zero_blk h k.1 k.2
  | true =>
    obtain ⟨r, T, rfl⟩ := hasB_cons hb
    obtain ⟨e4, e5⟩ := seg_cons hb
    rw [e4, e5]
    rw [e4, List.length_cons] at hsg
    have hsg' : (seg ar T).length ≤ n := by omega
    have har := hasB_of hb
    cases hd : r.dash with
    | true =>
      rw [blk_dash hd]
      exact block_list b r T line ins ar w h hR hb hd _ _ fun W f hr => say_list n ih we b r T ins ar W hE hwe (base_fresh hfe hwe f) hsg' hR hi hd har hr
    | false =>
      obtain ⟨_, _, hl3, hl4⟩ := hR.head
      have hl5 := hl4.resolve_left (by rw [hd]; exact Bool.false_ne_true)
      have hen : ∀ W : World, Wr (fun k => k = b) w W → Rdr W b T r.line → Calls Tryz.prog 84 #[.pointer (some ⟨b, 0, none⟩), .string (tx r.text)] W (EntIs W r.line (entM r.text)) := fun W f hr => entry_any b T r.line r.text W hr (hE.move (base_fresh hfe hwe f)) hl5.1 hl3 hl5.2
      cases hx : entM r.text with
      | mk code o =>
        by_cases hc : code = 0
        · subst hc
          cases o with
          | none =>
            rw [blk_alone hd hx]
            refine block_alone b r T line ins ar w h hR hb hd ⟨#[]⟩ ⟨#[]⟩ false _ _ (fun W f hr => (hen W f hr).mono fun e w' k => ?_) (fun W f hr => ?_)
            · rw [hx] at k
              exact ⟨k.2.1 rfl, k.2.2⟩
            · exact alone_any b T r.line ar r.indent ins false r.text W hr (hE.move (base_fresh hfe hwe f)) hR.tail hl5.1 hl3
          | some m =>
            rw [blk_keys hd hx]
            refine block_keys b r T line ins ar w h hR hb hd (tx m.key) (tx m.behind) m.quoted _ _ (fun W f hr => (hen W f hr).mono fun e w' k => ?_) (fun W f hr => ?_)
            · rw [hx] at k
              exact ⟨k.2.1 rfl, k.2.2⟩
            · exact say_keys n ih we b r T m ins ar W hE hwe (base_fresh hfe hwe f) hsg' hR hi hd hx har hr
        · have hc' : (entM r.text).1 ≠ 0 := by rw [hx]; exact hc
          rw [blk_code hd hc', hx]
          exact block_wrong b r T line ins ar w h hR hb hd code _ _ (fun W f hr => (hen W f hr).mono fun e w' k => by rw [hx] at k; exact ⟨k.1 hc, k.2.2⟩) rfl
theorem say_blk : ∀ n : Nat, SayBlk n
  | 0 => fun we b R line ins ar w hE hwe hfe hsg hR hi h => by
    have hb : hasB ar R = false := by
      cases hb : hasB ar R with
      | false => rfl
      | true =>
        obtain ⟨r, T, rfl⟩ := hasB_cons hb
        rw [(seg_cons hb).1, List.length_cons] at hsg
        omega
    obtain ⟨h1, h2⟩ := off_none hb
    rw [h1, h2, blk_nil]
    exact (block_none b R line ins ar w h hR hb).mono fun e w' k => zero_blk h k.1 k.2
  | n + 1 => say_step n (say_blk n)
theorem block_any (b : Nat) (R : List Rw) (line ins : Nat) (ar : Int) (w : World) (hR : Fine R) (hi : ins ≤ 32) (h : Rdr w b R line) (we : World) (hE : Env we) (hwe : we.heap.size ≤ b) (hfe : Fresh we w) :
    Calls Tryz.prog 55 #[.pointer (some ⟨b, 0, none⟩), .int .i64 ar, .int .i64 (ins : Int)] w (BlkIs w b (blk (seg ar R) ins) (off ar R)) :=
  say_blk _ we b R line ins ar w hE hwe hfe (Nat.le_refl _) hR hi h
/-- What the document comes to. -/
def docM (R : List Rw) : Res := if hasB 0 R = true then .error ((R.head?.map Rw.line).getD 0, 6) else blk R 0
theorem seg_all (R : List Rw) : seg (-1) R = R ∧ off (-1) R = [] := by
  have h : ∀ r : Rw, decide ((-1 : Int) < (r.indent : Int)) = true := fun r => decide_eq_true (by omega)
  induction R with
  | nil => exact ⟨rfl, rfl⟩
  | cons r R ih =>
    unfold seg off at *
    rw [List.takeWhile_cons, List.dropWhile_cons, h r]
    exact ⟨by rw [if_pos rfl, ih.1], by rw [if_pos rfl, ih.2]⟩
end Go.Proofs.YthhdadfnkdjmkaaGreatDoor.y
namespace Go.Proofs.YthhdadfnkdjmkaaGreatDoor.y
open Go.ChangeShapes Go.WideShapes Go.ChangeAt Go.RowKit
attribute [local go_sem ↓] Go.wp_at_zero Go.wp_at_succ
variable {w : World}
/-- Entered by a Parse that returns: nothing is caught. -/
theorem catch_idle (p q : Nat) (w : World) :
    CallsD Tryz.prog 25 #[.pointer (some ⟨p, 0, none⟩), .pointer (some ⟨q, 0, none⟩)] .returning w fun e u' w' => e = .returned (.tuple #[]) ∧ u' = .returning ∧ w' = w := by
  refine callsD_of_wpS Tryz.func25 rfl fun c₀ cs hu => ?_
  apply wpS_seq
  apply wpS_region
  simp [wpOpsS, go_sem, recoverD, hu, Tryz.ntmps25, Exit.thenS]
  refine wpS_of_wp ?_
  change Code.wp Tryz.prog _ _ { tmps := #[.pointer (some ⟨p, 0, none⟩), .pointer (some ⟨q, 0, none⟩), .nilIface, undef, undef, .nilIface, undef, undef, undef, undef, undef, undef, undef, undef, undef, undef, undef, undef], defers := [] } w
  go_wp2
  cases c₀
  simp_all [bodyPostS, results, Tryz.results25]
set_option maxRecDepth 100000 in
set_option maxHeartbeats 1000000 in
/-- Entered by a Parse that panics with a Mistake: it is told, and nothing else. -/
theorem catch_mistake (p q line : Nat) (c : Int) (w : World) (hv : VBox w p) (hm : w.heap[q]? = some (.cells #[.int .i64 0, .int .i64 0] 30 (0, 0))) (hpq : p ≠ q) :
    CallsD Tryz.prog 25 #[.pointer (some ⟨p, 0, none⟩), .pointer (some ⟨q, 0, none⟩)] (.panicking [{ v := .iface 30 (misV line c), recovered := false }]) w fun e u' w' =>
      e = .returned (.tuple #[]) ∧ u' = .panicking [{ v := .iface 30 (misV line c), recovered := true }] ∧ VBox w' p ∧ w'.heap[q]? = some (.cells #[.int .i64 (line : Int), .int .i64 c] 30 (0, 0)) ∧ Wr (fun k => k = p ∨ k = q) w w' := by
  obtain ⟨c0, c1, c2, c3, c4, c5, f, lt⟩ := hv.facts
  have f0 := f 0; have f1 := f 1; have f2 := f 2; have f3 := f 3; have f4 := f 4; have f5 := f 5
  have q0 : w.cell? ⟨q, 0, none⟩ = some (.int .i64 0) := cell_of_at hm rfl
  have q1 : w.cell? ⟨q, 1, none⟩ = some (.int .i64 0) := cell_of_at hm rfl
  have g0 : w.frozen? ⟨q, 0, none⟩ = false := by simp [World.frozen?, hm]
  have g1 : w.frozen? ⟨q, 1, none⟩ = false := by simp [World.frozen?, hm]
  have ltq := v.lt_of_at hm
  have HV := Lib.hid hv
  have HM := Lib.hid hm
  clear hv hm f
  refine callsD_of_wpS Tryz.func25 rfl fun c₀ cs hu => ?_
  apply wpS_seq
  apply wpS_region
  simp only [misV] at hu
  simp [wpOpsS, go_sem, recoverD, hu, Tryz.ntmps25, Exit.thenS]
  refine wpS_of_wp ?_
  change Code.wp Tryz.prog _ _ { tmps := #[.pointer (some ⟨p, 0, none⟩), .pointer (some ⟨q, 0, none⟩), .iface 30 (.agg #[.int .i64 (line : Int), .int .i64 c]), undef, undef, .iface 30 (.agg #[.int .i64 (line : Int), .int .i64 c]), undef, undef, undef, undef, undef, undef, undef, undef, undef, undef, undef, undef], defers := [] } w
  have hta : ∀ W : World, (Instr.typeAssert (.iface 30 (.agg #[.int .i64 (line : Int), .int .i64 c])) 20 30 true).run Tryz.prog W = .ok (.tuple #[.agg #[.int .i64 (line : Int), .int .i64 c], .bool true]) W := fun W => by kernel_rfl
  go_upto_region 5 with (fail)
  have hal : Fresh w (w.alloc (.cells #[.int .i64 (line : Int), .int .i64 c] 30)) := (Fresh.refl w).alloc _
  have HN : Hid ((w.alloc (.cells #[.int .i64 (line : Int), .int .i64 c] 30)).heap[w.heap.size]? = some (.cells #[.int .i64 (line : Int), .int .i64 c] 30 (0, 0))) := v.at_new w _
  clear c0 c1 c2 c3 c4 c5 f0 f1 f2 f3 f4 f5 q0 q1 g0 g1 hta
  have HV2 := Lib.hid (HV.out.move hal)
  have HM2 := Lib.hid (v.Fresh.at hal HM.out)
  have HAL := Lib.hid hal
  clear hal HV HM
  have np : w.heap.size ≠ p := by omega
  have nq : w.heap.size ≠ q := by omega
  generalize w.alloc (.cells #[.int .i64 (line : Int), .int .i64 c] 30) = wa at *
  generalize w.heap.size = g at *
  obtain ⟨c0, c1, c2, c3, c4, c5, f, lt2⟩ := HV2.out.facts
  have f0 := f 0; have f1 := f 1; have f2 := f 2; have f3 := f 3; have f4 := f 4; have f5 := f 5
  have q0 : wa.cell? ⟨q, 0, none⟩ = some (.int .i64 0) := cell_of_at HM2.out rfl
  have q1 : wa.cell? ⟨q, 1, none⟩ = some (.int .i64 0) := cell_of_at HM2.out rfl
  have g0 : wa.frozen? ⟨q, 0, none⟩ = false := by simp [World.frozen?, HM2.out]
  have g1 : wa.frozen? ⟨q, 1, none⟩ = false := by simp [World.frozen?, HM2.out]
  have m0 : wa.cell? ⟨g, 0, none⟩ = some (.int .i64 (line : Int)) := cell_of_at HN.out rfl
  have m1 : wa.cell? ⟨g, 1, none⟩ = some (.int .i64 c) := cell_of_at HN.out rfl
  have hqp : q ≠ p := Ne.symm hpq
  have HP : Hid (VBox ((((((((wa.setCell ⟨p, 0, none⟩ (.int .i64 0)).setCell ⟨p, 1, none⟩ (.bool false)).setCell ⟨p, 2, none⟩ (.int .i64 0)).setCell ⟨p, 3, none⟩ (.string ⟨#[]⟩)).setCell ⟨p, 4, none⟩ (.slice none 0 0)).setCell ⟨p, 5, none⟩ (.slice none 0 0)).setCell ⟨q, 0, none⟩ (.int .i64 (line : Int))).setCell ⟨q, 1, none⟩ (.int .i64 c)) p) := by
    have h := HV2.out
    unfold VBox at h
    rw [Hid, VBox, Below.heap_setCell _ _ _ _ hpq, Below.heap_setCell _ _ _ _ hpq]
    simp [World.setCell, Array.getElem?_modify, h, zcells]
  have HQ : Hid (((((((((wa.setCell ⟨p, 0, none⟩ (.int .i64 0)).setCell ⟨p, 1, none⟩ (.bool false)).setCell ⟨p, 2, none⟩ (.int .i64 0)).setCell ⟨p, 3, none⟩ (.string ⟨#[]⟩)).setCell ⟨p, 4, none⟩ (.slice none 0 0)).setCell ⟨p, 5, none⟩ (.slice none 0 0)).setCell ⟨q, 0, none⟩ (.int .i64 (line : Int))).setCell ⟨q, 1, none⟩ (.int .i64 c)).heap[q]? = some (.cells #[.int .i64 (line : Int), .int .i64 c] 30 (0, 0))) := by
    have h := HM2.out
    have h6 : ((((((wa.setCell ⟨p, 0, none⟩ (.int .i64 0)).setCell ⟨p, 1, none⟩ (.bool false)).setCell ⟨p, 2, none⟩ (.int .i64 0)).setCell ⟨p, 3, none⟩ (.string ⟨#[]⟩)).setCell ⟨p, 4, none⟩ (.slice none 0 0)).setCell ⟨p, 5, none⟩ (.slice none 0 0)).heap[q]? = wa.heap[q]? := by
      rw [Below.heap_setCell _ _ _ _ hqp, Below.heap_setCell _ _ _ _ hqp, Below.heap_setCell _ _ _ _ hqp, Below.heap_setCell _ _ _ _ hqp, Below.heap_setCell _ _ _ _ hqp, Below.heap_setCell _ _ _ _ hqp]
    rw [h] at h6
    generalize (((((wa.setCell ⟨p, 0, none⟩ (.int .i64 0)).setCell ⟨p, 1, none⟩ (.bool false)).setCell ⟨p, 2, none⟩ (.int .i64 0)).setCell ⟨p, 3, none⟩ (.string ⟨#[]⟩)).setCell ⟨p, 4, none⟩ (.slice none 0 0)).setCell ⟨p, 5, none⟩ (.slice none 0 0) = wz at *
    rw [Hid]
    simp [World.setCell, Array.getElem?_modify, h6]
  have HWR : Hid (Wr (fun k => k = p ∨ k = q) w ((((((((wa.setCell ⟨p, 0, none⟩ (.int .i64 0)).setCell ⟨p, 1, none⟩ (.bool false)).setCell ⟨p, 2, none⟩ (.int .i64 0)).setCell ⟨p, 3, none⟩ (.string ⟨#[]⟩)).setCell ⟨p, 4, none⟩ (.slice none 0 0)).setCell ⟨p, 5, none⟩ (.slice none 0 0)).setCell ⟨q, 0, none⟩ (.int .i64 (line : Int))).setCell ⟨q, 1, none⟩ (.int .i64 c))) := (((Wr.of_fresh HAL.out).set6 (.inl (.inl rfl)) _ _ _ _ _ _).set (.inl (.inr rfl)) _).set (.inl (.inr rfl)) _
  clear f
  have HPd := Lib.hid (HP.out.move (Fresh.refl _).drew)
  have HQd := Lib.hid (v.Fresh.at (Fresh.refl _).drew HQ.out)
  have HWd := Lib.hid HWR.out.drew
  clear HP HQ HWR
  go_region
  refine And.intro rfl ?_
  refine ⟨.panicking [{ v := .iface 30 (misV line c), recovered := true }], ?_, ?_⟩
  · first | rfl | simp [misV]
  refine ⟨.tuple #[], by simp [results, Tryz.results25], ?_⟩
  exact ⟨rfl, rfl, HPd.out, HQd.out, HWd.out⟩
end Go.Proofs.YthhdadfnkdjmkaaGreatDoor.y
namespace Go.Proofs.YthhdadfnkdjmkaaGreatDoor.y
open Go.ChangeShapes Go.WideShapes Go.ChangeAt Go.RowKit
attribute [local go_sem ↓] Go.wp_at_zero Go.wp_at_succ
variable {w : World}
set_option maxRecDepth 100000 in
set_option maxHeartbeats 2000000 in
theorem doc_ok (b : Nat) (R : List Rw) (line : Nat) (w : World) (h : Rdr w b R line) (hR : Fine R) (hb : hasB 0 R = false) (x : Res) (R' : List Rw)
    (hq : ∀ W : World, Fresh w W → Calls Tryz.prog 55 #[.pointer (some ⟨b, 0, none⟩), .int .i64 (-1), .int .i64 0] W (BlkIs W b x R')) :
    Calls Tryz.prog 26 #[.pointer (some ⟨b, 0, none⟩)] w (BlkIs w b x R') := by
  have HH : Hid (∀ W : World, Fresh w W → Calls Tryz.prog 52 #[.pointer (some ⟨b, 0, none⟩), .int .i64 0] W fun e w' => e = .returned (.bool false) ∧ W = w') := fun W f => by
    have := hasBehind_any b R line 0 W (h.move f) hR
    rw [hb] at this
    exact this
  have HQ := Lib.hid hq
  have HLT := Lib.hid h.lt
  have HB := Lib.hid (VBox.new w)
  have HF0 := Lib.hid ((Fresh.refl w).alloc (.cells zcells 27 (0, 0)))
  clear h hR hb hq
  go_enter Tryz.func26, Tryz.ntmps26
  go_wp2_with fail
  generalize w.alloc (.cells zcells 27 (0, 0)) = w0 at *
  generalize hsz : w.heap.size = sz at *
  have HSZ := Lib.hid hsz
  clear hsz
  refine (HH.out _ HF0.out).mono ?_
  rintro e w1 ⟨rfl, rfl⟩
  go_wp2_with fail
  refine (HQ.out _ HF0.out).mono ?_
  have HG0 : Hid (Wr (fun k => k = b) w w0) := .of_fresh HF0.out
  have HW0 : Hid (sz < w0.heap.size) := v.lt_of_at HB.out
  cases x with
  | error er =>
    rintro e w2 ⟨hp, hg2⟩
    have HG2 : Hid (Wr (fun k => k = b) w w2) := HG0.out.trans hg2
    unfold Panics at hp
    subst hp
    clear hg2
    go_wp2
    exact ⟨rfl, rfl, HG2.out⟩
  | ok y =>
    rintro e w2 ⟨⟨m, line', rfl, hp, hn, hr2⟩, hg2⟩
    obtain ⟨c0, c1, c2, c3, c4, c5, f, lt⟩ := (HB.out.wr hg2 (fun e => by have := HLT.out; omega)).facts
    have f0 := f 0; have f1 := f 1; have f2 := f 2; have f3 := f 3; have f4 := f 4; have f5 := f 5
    have HK : Hid (∀ u0 u1 u2 u3 u4 u5 : Value, BlkIs w b (.ok y) R' (.returned m.val) ((((((w2.setCell ⟨sz, 0, none⟩ u0).setCell ⟨sz, 1, none⟩ u1).setCell ⟨sz, 2, none⟩ u2).setCell ⟨sz, 3, none⟩ u3).setCell ⟨sz, 4, none⟩ u4).setCell ⟨sz, 5, none⟩ u5)) :=
      fun u0 u1 u2 u3 u4 u5 => blk_close HLT.out HSZ.out HG0.out HW0.out hp hn hr2 hg2 u0 u1 u2 u3 u4 u5
    clear hp hn hr2 hg2 f
    obtain ⟨mk, mf, mn, ms, mla, mlc, ml, mka, mkc, mks⟩ := m
    dsimp only [v.M.val] at HK ⊢
    go_wp2
    refine bodyPost_ret (v := .agg #[.int .i64 mk, .bool mf, .int .i64 mn, .string ms, .slice mla ml.length mlc, .slice mka mks.length mkc]) (by simp [results, Tryz.results26, go_sem, *]) rfl ?_
    exact HK.out _ _ _ _ _ _
set_option maxRecDepth 100000 in
set_option maxHeartbeats 2000000 in
theorem doc_bad (b : Nat) (r : Rw) (T : List Rw) (line : Nat) (w : World) (h : Rdr w b (r :: T) line) (hR : Fine (r :: T)) (hb : hasB 0 (r :: T) = true) :
    Calls Tryz.prog 26 #[.pointer (some ⟨b, 0, none⟩)] w (BlkIs w b (.error (r.line, 6)) []) := by
  have HH : Hid (∀ W : World, Fresh w W → Calls Tryz.prog 52 #[.pointer (some ⟨b, 0, none⟩), .int .i64 0] W fun e w' => e = .returned (.bool true) ∧ W = w') := fun W f => by
    have := hasBehind_any b (r :: T) line 0 W (h.move f) hR
    rw [hb] at this
    exact this
  have HN : Hid (∀ W : World, Fresh w W → Calls Tryz.prog 53 #[.pointer (some ⟨b, 0, none⟩)] W fun e w' => e = .returned (rowV r) ∧ Rdr w' b T r.line ∧ Wr (fun k => k = b) W w') := fun W f => next_any b r T line W (h.move f) hR
  have HW : Hid (∀ W : World, Rdr W b T r.line → Calls Tryz.prog 54 #[.pointer (some ⟨b, 0, none⟩), .int .i64 6] W fun e w' => e = .returned (misV r.line 6) ∧ Fresh W w') := fun W hW => wrong_any b T r.line 6 W hW
  have HF0 := Lib.hid ((Fresh.refl w).alloc (.cells zcells 27 (0, 0)))
  clear h hR hb
  go_enter Tryz.func26, Tryz.ntmps26
  go_wp2_with fail
  generalize w.alloc (.cells zcells 27 (0, 0)) = w0 at *
  refine (HH.out _ HF0.out).mono ?_
  rintro e w1 ⟨rfl, rfl⟩
  go_wp2_with fail
  refine (HN.out _ HF0.out).mono ?_
  rintro e w3 ⟨rfl, hr3, hg3⟩
  have HR3 := Lib.hid hr3
  have HG3 := Lib.hid hg3
  unfold rowV
  clear hr3 hg3
  go_wp2_with (go_at_call 54; refine (HW.out _ HR3.out).mono ?_; rintro e w4 ⟨rfl, hf⟩; have HF4 := Lib.hid hf; clear hf)
  exact ⟨rfl, rfl, (Wr.up HF0.out HG3.out).fresh HF4.out⟩
theorem document_any (b : Nat) (R : List Rw) (line : Nat) (w : World) (hR : Fine R) (h : Rdr w b R line) (hE : Env w) (hwe : w.heap.size ≤ b ∨ ∃ we, Env we ∧ we.heap.size ≤ b ∧ Fresh we w) :
    Calls Tryz.prog 26 #[.pointer (some ⟨b, 0, none⟩)] w (BlkIs w b (docM R) []) := by
  unfold docM
  cases hb : hasB 0 R with
  | true =>
    obtain ⟨r, T, rfl⟩ := hasB_cons hb
    rw [if_pos rfl]
    exact doc_bad b r T line w h hR hb
  | false =>
    rw [if_neg (by simp)]
    obtain ⟨we, hE', hwe', hf'⟩ : ∃ we, Env we ∧ we.heap.size ≤ b ∧ Fresh we w := by
      rcases hwe with h1 | h1
      · exact ⟨w, hE, h1, .refl w⟩
      · exact h1
    refine doc_ok b R line w h hR hb _ _ fun W f => ?_
    have k := block_any b R line 0 (-1) W hR (by omega) (h.move f) we hE' hwe' (hf'.trans f)
    rw [(seg_all R).1, (seg_all R).2] at k
    exact k
theorem parseR_doc (R : List Rw) : parseR R = match docM R with
    | .ok x => (x, 0, 0)
    | .error e => (zV, e.1, e.2) := by
  unfold parseR docM
  cases R with
  | nil => simp [hasB]; cases blk [] 0 <;> rfl
  | cons r T =>
    by_cases h : 0 < r.indent
    · simp [hasB, h]
    · have h' : r.indent = 0 := by omega
      simp [hasB, h']
      cases blk (r :: T) 0 <;> rfl
end Go.Proofs.YthhdadfnkdjmkaaGreatDoor.y
namespace Go.Proofs.YthhdadfnkdjmkaaGreatDoor
open Go.ChangeShapes Go.WideShapes Go.ChangeAt Go.RowKit
attribute [local go_sem ↓] Go.wp_at_zero Go.wp_at_succ
variable {w : World}

theorem trimL_any (l : List UInt8) (w : World) : Calls Tryz.prog 109 #[.string (tx l), .string ⟨#[32]⟩] w fun e w' => e = .returned (.string (tx (Lib.trimLeftB l 32))) ∧ w = w' := by
  refine (Any.strings_TrimLeft_one Tryz.laysTrimL (tx l) 32 (by decide) w).mono ?_
  rintro e w' ⟨h1, h2⟩
  rw [tx_toList] at h1
  exact ⟨h1, h2.symm⟩
theorem trimR_any (s : ByteArray) (w : World) (hs : s.size ≤ 1000000) : Calls Tryz.prog 79 #[.string s, .string ⟨#[32]⟩] w fun e w' => e = .returned (.string (tx (Lib.trimRightB s.data.toList 32))) ∧ w = w' := by
  refine (Any.strings_TrimRight_one Tryz.laysTrimR s 32 (by decide) w (by omega)).mono ?_
  rintro e w' ⟨h1, h2⟩
  exact ⟨h1, h2.symm⟩
theorem hasPre_any (l p : List UInt8) (w : World) : Calls Tryz.prog 110 #[.string (tx l), .string (tx p)] w fun e w' => e = .returned (.bool (p.isPrefixOf l)) ∧ w = w' := by
  refine (Any.strings_HasPrefix Tryz.laysHas (tx l) (tx p) w).mono ?_
  rintro e w' ⟨h1, h2⟩
  rw [tx_toList, tx_toList] at h1
  exact ⟨h1, h2.symm⟩
theorem past_any (l : List UInt8) (a : Nat) (w : World) (ha : a ≤ l.length) (hs : l.length ≤ 1000000) : Calls Tryz.prog 80 #[.string (tx l), .int .i64 (a : Int)] w fun e w' => e = .returned (.int .i64 ((a + blanks (l.drop a) : Nat) : Int)) ∧ w = w' := by
  have hsz := tx_size l
  have HT := Lib.hid (fun W => trimL_any (l.drop a) W)
  have HE : Hid ((tx l).extract a (tx l).size = tx (l.drop a)) := by
    rw [Hid, tx_extract, tx_toList, hsz]
    congr 1
    rw [List.take_of_length_le (by simp)]
  have hz : (tx (Lib.trimLeftB (l.drop a) 32)).size = l.length - a - blanks (l.drop a) := by
    rw [tx_size, trimLeft_len, List.length_drop]
  have hb := blanks_le (l.drop a)
  rw [List.length_drop] at hb
  have q0 := HE.out
  obtain ⟨b, hbb⟩ : ∃ b, b = blanks (l.drop a) := ⟨_, rfl⟩
  rw [← hbb] at hz hb ⊢
  have ha' : a ≤ (tx l).size := by omega
  have HSZ := Lib.hid hsz
  have HZ := Lib.hid hz
  have HR : Hid (((tx l).size : Int) - ((tx (Lib.trimLeftB (l.drop a) 32)).size : Int) = ((a + b : Nat) : Int)) := by
    rw [Hid, hsz, hz]; omega
  have hw : wrap64 (((tx l).size : Int) - ((tx (Lib.trimLeftB (l.drop a) 32)).size : Int)) = ((a + b : Nat) : Int) := by
    rw [HR.out]; unfold wrap64; omega
  have hs2 : (tx l).size ≤ 1000000 := by omega
  clear hsz hz hbb
  generalize tx (Lib.trimLeftB (l.drop a) 32) = r at *
  generalize tx (l.drop a) = d at *
  generalize tx l = s at *
  have hr : r.size ≤ s.size := by rw [HZ.out, HSZ.out]; omega
  have HW := Lib.hid hw
  clear hw HE
  go_enter Tryz.func80, Tryz.ntmps80
  go_wp2_with (go_at_call 109; refine (HT.out _).mono ?_; rintro e w' ⟨rfl, rfl⟩)
  go_ret
  refine ⟨?_, rfl⟩
  show Ending.returned (.int .i64 _) = _
  exact ret_int HR.out
theorem isDash_any (l : List UInt8) (w : World) : Calls Tryz.prog 81 #[.string (tx l)] w fun e w' => e = .returned (.bool (dashB l)) ∧ w = w' := by
  have HP := Lib.hid (fun W => hasPre_any l [45, 32] W)
  by_cases h : l = [45]
  · subst h
    have e0 : (tx [45]).toList = [45] := by rw [Lib.toList_data, tx_toList]
    clear HP
    go_enter Tryz.func81, Tryz.ntmps81
    go_wp2
    go_ret
    exact ⟨rfl, rfl⟩
  · have hd : dashB l = [45, 32].isPrefixOf l := by
      unfold dashB
      rw [show (l == [45]) = false by simpa using h]; rfl
    have hne : ((tx l).toList == [45]) = false := by
      rw [Lib.toList_data, tx_toList]; simpa using h
    have hne2 : ((45 : UInt8) :: [] == (tx l).toList) = false := by
      rw [Lib.toList_data, tx_toList]; simpa using fun e => h e.symm
    rw [hd]
    clear hd h
    generalize tx l = s at *
    go_enter Tryz.func81, Tryz.ntmps81
    go_wp2_with (go_at_call 110; refine (HP.out _).mono ?_; rintro e w' ⟨rfl, rfl⟩)
    go_ret
    exact ⟨rfl, rfl⟩
theorem valid19_any (s : ByteArray) (w : World) (hs : s.size ≤ 1000000) (hT : Lib.Utf8Tabs (Tryz.laysValid_ren.g 3) (Tryz.laysValid_ren.g 4) w) : Calls Tryz.prog 78 #[.string s] w fun e w' => e = .returned (.bool (Lib.validD s.data.toList)) ∧ Fresh w w' := by
  have H := Lib.hid ((Any.utf8_ValidString Tryz.laysValid s w (by omega) hT).mono (fun e w' h => h))
  clear hT
  go_enter Tryz.func78, Tryz.ntmps78
  go_wp2_with fail
  refine H.out.mono ?_
  rintro e w' ⟨rfl, hf⟩
  have HF := Lib.hid hf
  clear hf
  go_wp2
  go_ret
  exact ⟨rfl, HF.out⟩
end Go.Proofs.YthhdadfnkdjmkaaGreatDoor
namespace Go.Proofs.YthhdadfnkdjmkaaGreatDoor
open Go.ChangeShapes Go.WideShapes Go.ChangeAt Go.RowKit Go.Shelf
attribute [local go_sem] Oper.semAt_some
variable {w : World}

theorem index1_any (l : List UInt8) (w : World) : Calls Tryz.prog 129 #[.string (tx l), .string ⟨#[10]⟩] w fun e w' => e = .returned (.int .i64 (Lib.indexByte l 10)) ∧ w = w' := by
  refine (Any.stringslite_Index_one Tryz.laysSub (tx l) 10 w).mono ?_
  rintro e w' ⟨h1, h2⟩
  rw [tx_toList] at h1
  exact ⟨h1, h2.symm⟩
/-- The first line, what is behind it, and whether there was a line feed. -/
def cutF (l : List UInt8) : List UInt8 × List UInt8 × Bool := if Lib.indexByte l 10 = -1 then (l, [], false) else (l.take (Lib.indexByte l 10).toNat, l.drop ((Lib.indexByte l 10).toNat + 1), true)
theorem cutS_any (l : List UInt8) (w : World) (hs : l.length ≤ 1000000) : Calls Tryz.prog 103 #[.string (tx l), .string ⟨#[10]⟩] w fun e w' => e = .returned (.tuple #[.string (tx (cutF l).1), .string (tx (cutF l).2.1), .bool (cutF l).2.2]) ∧ Fresh w w' := by
  have HI := Lib.hid (fun W => index1_any l W)
  rcases indexByte_cases l 10 with h | ⟨k, h⟩
  · have HC : Hid (cutF l = (l, [], false)) := by rw [Hid, cutF, if_pos h]
    rw [h] at HI
    clear h
    rw [HC.out]
    dsimp only
    clear HC
    generalize tx l = s at *
    go_enter Tryz.func103, Tryz.ntmps103
    go_wp2_with (go_at_call 129; refine (HI.out _).mono ?_; rintro e w' ⟨rfl, rfl⟩)
    go_ret3
    exact ⟨rfl, Fresh.refl _⟩
  · have HC : Hid (cutF l = (l.take k, l.drop (k + 1), true)) := by rw [Hid, cutF, if_neg (by omega), h]; simp
    have hk := (indexByte_some l 10 k h).1
    rw [h] at HI
    clear h
    rw [HC.out]
    dsimp only
    clear HC
    have HSZ := Lib.hid (tx_size l)
    have q1 : (tx l).extract 0 k = tx (l.take k) := by rw [tx_extract, tx_toList]; simp
    have q2 : (tx l).extract (k + 1) (tx l).size = tx (l.drop (k + 1)) := by
      rw [tx_extract, tx_toList, tx_size]
      congr 1
      rw [List.take_of_length_le (by simp)]
    have hks : k < (tx l).size := by rw [HSZ.out]; exact hk
    have hsz : (tx l).size ≤ 1000000 := by rw [HSZ.out]; exact hs
    generalize tx (l.take k) = r1 at *
    generalize tx (l.drop (k + 1)) = r2 at *
    generalize tx l = s at *
    clear HSZ hk
    have c1 : (0 : Int) ≤ ↑k := by omega
    have c2 : (↑k : Int) ≤ ↑s.size := by omega
    have c3 : (0 : Int) ≤ ↑k + 1 := by omega
    have c4 : (↑k + 1 : Int) ≤ ↑s.size := by omega
    go_enter Tryz.func103, Tryz.ntmps103
    go_wp2_with (go_at_call 129; refine (HI.out _).mono ?_; rintro e w' ⟨rfl, rfl⟩)
    go_region
    go_wp2
    go_ret3
    exact ⟨rfl, Fresh.drew (Fresh.refl _)⟩
theorem cut_any (l : List UInt8) (w : World) (hs : l.length ≤ 1000000) : Calls Tryz.prog 77 #[.string (tx l), .string ⟨#[10]⟩] w fun e w' => e = .returned (.tuple #[.string (tx (cutF l).1), .string (tx (cutF l).2.1), .bool (cutF l).2.2]) ∧ Fresh w w' := by
  have HI := Lib.hid (fun W => cutS_any l W hs)
  generalize cutF l = c at *
  obtain ⟨a, b, d⟩ := c
  dsimp only at *
  generalize tx l = s at *
  generalize tx a = r1 at *
  generalize tx b = r2 at *
  go_enter Tryz.func77, Tryz.ntmps77
  go_wp2_with fail
  refine (HI.out _).mono ?_
  rintro e w' ⟨rfl, hf⟩
  have HF := Lib.hid hf
  clear hf
  go_wp2
  go_ret3
  exact ⟨rfl, HF.out⟩
theorem lns_cut_no (l : List UInt8) (h : (cutF l).2.2 = false) : lnsA [] l = [(cutF l).1] := by
  unfold cutF at *
  by_cases hx : Lib.indexByte l 10 = -1
  · rw [if_pos hx]
    exact lnsA_none l [] (indexByte_none l 10 hx)
  · rw [if_neg hx] at h
    cases h
theorem lns_cut_yes (l : List UInt8) (h : (cutF l).2.2 = true) : lnsA [] l = (cutF l).1 :: lnsA [] (cutF l).2.1 ∧ (cutF l).2.1.length < l.length := by
  unfold cutF at *
  by_cases hx : Lib.indexByte l 10 = -1
  · rw [if_pos hx] at h
    cases h
  · rw [if_neg hx]
    rcases indexByte_cases l 10 with h1 | ⟨k, h1⟩
    · exact absurd h1 hx
    · rw [h1, Int.toNat_natCast]
      obtain ⟨h2, h3, h4⟩ := indexByte_some l 10 k h1
      refine ⟨?_, by simp; omega⟩
      conv => lhs; rw [h3]
      rw [lnsA_cut _ _ _ h4]
      simp
/-- Lines with their numbers. -/
def nums : Nat → List (List UInt8) → List (Nat × List UInt8)
  | _, [] => []
  | n, l :: ls => (n, l) :: nums (n + 1) ls
theorem nums_len : ∀ (ls : List (List UInt8)) (n : Nat), (nums n ls).length = ls.length
  | [], n => rfl
  | l :: ls, n => by rw [nums, List.length_cons, nums_len ls (n + 1), List.length_cons]
def clip (l : List UInt8) : List UInt8 := l.take 1000000
theorem clip_len (l : List UInt8) : (clip l).length ≤ 1000000 := by simp [clip]; omega
theorem clip_self {l : List UInt8} (h : l.length ≤ 1000000) : clip l = l := List.take_of_length_le h
/-- A line as it is handed over. -/
def encL (x : Nat × List UInt8) : Array Value := #[.int .i64 (x.1 : Int), .string (tx (clip x.2))]
theorem cutF_len (l : List UInt8) : (cutF l).1.length ≤ l.length := by
  unfold cutF
  split
  · exact Nat.le_refl _
  · simp; omega
theorem cutF_len2 (l : List UInt8) : (cutF l).2.1.length ≤ l.length := by
  unfold cutF
  split
  · simp
  · simp
set_option maxRecDepth 100000 in
set_option maxHeartbeats 2000000 in
theorem iter_stops (l : List UInt8) (Bn : Nat) (w : World) (n : Nat) (hn : 2 ≤ n) (hs : l.length ≤ 1000000) (hBn : Bn < w.heap.size) (hc : w.cell? ⟨Bn, 0, none⟩ = some (.string (tx l))) :
    SeqStopsK Fence.wide n Tryz.prog 76 #[.pointer (some ⟨Bn, 0, none⟩)] encL (fun _ _ => True) (fun xs => xs = nums 0 (lnsA [] l)) (fun pre => pre <+: nums 0 (lnsA [] l)) (lnsA [] l).length w := fun y J Jx W hW hJ _ hY h0 => by
  have hc' : W.cell? ⟨Bn, 0, none⟩ = some (.string (tx l)) := (hW.cell (p := ⟨Bn, 0, none⟩) hBn).trans hc
  dsimp only
  obtain ⟨full, hfull⟩ : ∃ full, full = nums 0 (lnsA [] l) := ⟨_, rfl⟩
  have hlen : full.length = (lnsA [] l).length := by rw [hfull, nums_len]
  rw [← hlen] at hY
  rw [← hfull]
  have HFULL := Lib.hid hfull
  have hln := lnsA_len [] l
  have HLN : Hid (full.length ≤ 1000001) := by rw [Hid, hlen]; omega
  have HY := Lib.hid hY
  have HJ := Lib.hid hJ
  have H0 := Lib.hid h0
  clear hfull hlen hln hY hJ h0 hc hW
  refine callsIn_of_wp Tryz.func76 rfl trivial ?_ rfl
  simp only [Tryz.ntmps76, List.size_toArray, List.length_cons, List.length_nil, Nat.reduceAdd, Nat.reduceSub, Array.replicate_succ, Array.replicate_zero, List.push_toArray, List.append_toArray, List.nil_append, List.cons_append]
  gi_wp2
  gi_loopw [3, 4, 5] (fun a3 a4 a5 wr => ∃ (pre : List (Nat × List UInt8)) (r : List UInt8) (more : Bool) (k : Nat), a3 = .string (tx r) ∧ a4 = .bool more ∧ a5 = .int .i64 (k : Int) ∧ k ≤ 1000001 ∧ Hid (J pre wr) ∧ Hid (r.length ≤ 1000000) ∧ Hid (pre.length = k) ∧ Hid (more = true → full = pre ++ nums k (lnsA [] r)) ∧ Hid (more = false → full = pre))
    (fun a3 a4 _ _ => match a4 with | .bool true => Lib.strSize a3 + 1 | _ => 0)
  case atStart => exact ⟨[], l, true, 0, rfl, rfl, by simp, by omega, H0.out, hs, rfl, fun _ => HFULL.out, fun h => by cases h⟩
  case round =>
    obtain ⟨pre, r, more, k, rfl, rfl, rfl, hk, HJS, HR, HPL, HT, HF⟩ := hrel
    cases more with
    | false =>
      gi_wp2
      go_end0
      exact ⟨⟨_, rfl⟩, .inl (by rw [HF.out (by simp)]; exact HJS.out)⟩
    | true =>
      have HCUT := Lib.hid (cut_any r wr HR.out)
      have HNO := Lib.hid (lns_cut_no r)
      have HYES := Lib.hid (lns_cut_yes r)
      have hc1 := cutF_len r
      have hc2 := cutF_len2 r
      generalize cutF r = c at *
      obtain ⟨c1, c2, m⟩ := c
      dsimp only at *
      have HC1 : Hid (clip c1 = c1) := clip_self (by have := HR.out; omega)
      have HC2 : Hid (c2.length ≤ 1000000) := by have := HR.out; rw [Hid]; omega
      clear hc1 hc2
      have HSZ := Lib.hid (tx_size r)
      gi_wp2_with (fail)
      refine ⟨trivial, fun _ => by omega, ?_⟩
      refine (callsIn_wide.2 HCUT.out).mono ?_
      rintro e W2 ⟨rfl, hf⟩
      have HJ2 := Lib.hid (HJ.out pre wr W2 none HJS.out ⟨hf.os, hf.tape, hf.output, hf.size, fun k hk _ => hf.block k hk⟩ (fun r e => by cases e))
      clear hf
      have hnum : full = pre ++ (k, c1) :: (if m = true then nums (k + 1) (lnsA [] c2) else []) := by
        rw [HT.out (by simp)]
        cases m with
        | false => rw [HNO.out rfl]; rfl
        | true => rw [(HYES.out rfl).1]; rfl
      have hlt : pre.length < full.length := by rw [hnum]; simp
      have HK : Hid (k < 1000001) := by rw [Hid, ← HPL.out]; have := HLN.out; omega
      have hk1 := HK.out
      obtain ⟨fn, tmps, assign, body, hy, hR⟩ := HY.out pre (k, c1) W2 HJ2.out hlt
      dsimp only [encL] at hy
      rw [HC1.out] at hy
      have HNUM := Lib.hid hnum
      have HRR := Lib.hid hR
      clear hnum hlt hR
      gi_wp2_with (fail)
      refine ⟨fun _ => by omega, ?_⟩
      refine HRR.out.mono ?_
      clear HRR hy
      rintro e W3 (⟨rfl, hJ3, _⟩ | ⟨rfl, hJx3⟩)
      · have HJ3 := Lib.hid hJ3
        clear hJ3
        gi_wp2
        go_roundw
        case rel =>
          refine ⟨pre ++ [(k, c1)], c2, m, k + 1, rfl, rfl, by simp, by omega, HJ3.out, HC2.out, ?_, ?_, ?_⟩
          · rw [Hid, List.length_append, HPL.out]; rfl
          · intro h
            rw [HNUM.out, if_pos h]; simp
          · intro h
            rw [HNUM.out, if_neg (by rw [h]; simp)]
        case measure =>
          cases m with
          | false => simp
          | true =>
            have := (HYES.out rfl).2
            simp [Lib.strSize_string, tx_size]; omega
      · have HJ3 := Lib.hid hJx3
        clear hJx3
        gi_wp2
        refine bodyPost_ret (results_none rfl _ _ _) rfl ?_
        exact ⟨⟨_, rfl⟩, .inr ⟨pre ++ [(k, c1)], ⟨if m = true then nums (k + 1) (lnsA [] c2) else [], by rw [HNUM.out]; simp⟩, HJ3.out⟩⟩
theorem lines9_any (s : ByteArray) (w : World) : Calls Tryz.prog 48 #[.string s] w fun e w' => e = .returned (.func (.func 76) #[] #[.pointer (some ⟨w.heap.size, 0, none⟩)]) ∧ w' = w.alloc (.cells #[.string s] 9) := by
  go_enter Tryz.func48, Tryz.ntmps48
  go_wp2
  go_ret
  exact ⟨rfl, rfl⟩
end Go.Proofs.YthhdadfnkdjmkaaGreatDoor
namespace Go.Proofs.YthhdadfnkdjmkaaGreatDoor
open Go.ChangeShapes Go.WideShapes Go.ChangeAt Go.RowKit
theorem size5 : (Tryz.prog.info? 5).map (·.size) = some 1 := by kernel_rfl
theorem cells5 : Tryz.prog.cellsOf 5 = 1 := by kernel_rfl
/-- The row behind the copy holds just the bytes of s. -/
theorem copied (s : ByteArray) (M : Array Value) (hM : M.size = s.size) : (M.toList.take 0 ++ Lib.byteCells s.data.toList ++ M.toList.drop (0 + s.size)).toArray = (Lib.byteCells s.data.toList).toArray := by
  rw [List.take_zero, List.nil_append, List.drop_of_length_le (by rw [Array.length_toList]; omega), List.append_nil]
set_option maxRecDepth 100000 in
theorem slite_clone (s : ByteArray) (w : World) (hs : s.size ≤ 281474976710656) :
    Calls Tryz.prog 111 #[.string s] w fun e w' => e = .returned (.string s) ∧ Fresh w w' := by
  by_cases h0 : s.size = 0
  · obtain rfl : s = ⟨#[]⟩ := ByteArray.ext (Array.eq_empty_of_size_eq_zero h0)
    clear h0
    go_enter Tryz.func111, Tryz.ntmps111
    go_wp2
    go_ret
    exact ⟨rfl, Fresh.refl _⟩
  · have hmk := fun W => run_make_row' (P := Tryz.prog) 145 5 (.int .u8 0) 1 Tryz.underlying145 info5 rfl .i64 .i64 s.size (by omega) (by omega) W
    have hMs : (madeCells #[Value.int .u8 0] s.size).size = s.size := by rw [size_madeCells]
    generalize madeCells #[Value.int .u8 0] s.size = M at hmk hMs
    have hcp := Lib.run_copy_row_string (P := Tryz.prog) (w.alloc (.cells M 5)) 145 9 3 5 w.heap.size 0 s.size s.size s M 5 Tryz.underlying145 size5 (heap_alloc_new w _) (Nat.le_refl _) (by omega)
    rw [copied s M hMs] at hcp
    obtain ⟨Y, hY⟩ : ∃ Y, Y = (Lib.byteCells s.data.toList).toArray := ⟨_, rfl⟩
    rw [← hY] at hcp
    have hYs : Y.size = s.size := by rw [hY, List.size_toArray, Lib.byteCells_length, ← Lib.size_eq]
    have hgY : ((w.alloc (.cells M 5)).setRow w.heap.size Y).heap[w.heap.size]? = some (.cells Y 5 (0, 0)) := setRow_heap _ _ M _ 5 (0, 0) (heap_alloc_new w _)
    have hus := Lib.run_unsafeString_row (P := Tryz.prog) ((w.alloc (.cells M 5)).setRow w.heap.size Y) 187 3 9 5 Tryz.underlying187 cells5 w.heap.size Y.size (by unfold World.shape?; rw [hgY]) s.data.toList
      (fun e => h0 (by rw [Lib.size_eq, e]; rfl)) (by rw [← Lib.size_eq]; omega) (by rw [← Lib.size_eq]; omega)
      (fun j x hx => Lib.cells_of_row hgY Y.size j _ (by rw [List.take_of_length_le (by rw [Array.length_toList]; exact Nat.le_refl _), hY]; simp [Lib.byteCells, hx]))
    rw [← Lib.size_eq] at hus
    clear hY hgY
    go_enter Tryz.func111, Tryz.ntmps111
    go_wp2
    go_ret
    have hb2 : Below w.heap.size (w.alloc (.cells M 5)) ((w.alloc (.cells M 5)).setRow w.heap.size Y) := ⟨rfl, rfl, rfl, by simp, fun k hk => setRow_other _ _ _ _ (by omega)⟩
    exact ⟨rfl, Lib.below_freeze (((Below.refl _ w).alloc (Nat.le_refl _) _).trans hb2) (p := ⟨w.heap.size, 0, none⟩) (Nat.le_refl _) _⟩
set_option maxRecDepth 100000 in
theorem clone_any (s : ByteArray) (w : World) (hs : s.size ≤ 281474976710656) :
    Calls Tryz.prog 82 #[.string s] w fun e w' => e = .returned (.string s) ∧ Fresh w w' := by
  go_enter Tryz.func82, Tryz.ntmps82
  go_wp2_with fail
  refine (slite_clone _ _ hs).mono ?_
  rintro e w' ⟨rfl, hg⟩
  go_wp2
  go_ret
  exact ⟨rfl, hg⟩
end Go.Proofs.YthhdadfnkdjmkaaGreatDoor
namespace Go.Proofs.YthhdadfnkdjmkaaGreatDoor
open Go.ChangeShapes Go.WideShapes Go.ChangeAt Go.RowKit
attribute [local go_sem ↓] Go.wp_at_zero Go.wp_at_succ
variable {w : World}

/-- Rows put behind others: what was there lies as it lay, but for the row's own block. -/
def Adds (w : World) (B : Nat) (v : Value) (l : List Rw) (v' : Value) (w' : World) : Prop :=
  RBuf 90 w' B v' l ∧ w.grownBy w' v.ownBlock ∧ ∀ g, v'.ownBlock = some g → v.ownBlock = some g ∨ w.heap.size ≤ g
theorem grownBy_trans {a b c : World} {r r' : Option Nat} (h : a.grownBy b r) (k : b.grownBy c r') (hr : ∀ g, r' = some g → r = some g ∨ a.heap.size ≤ g) : a.grownBy c r :=
  ⟨k.os.trans h.os, k.tape.trans h.tape, k.output.trans h.output, Nat.le_trans h.size k.size, fun j hj hne => by
    rw [k.block j (Nat.lt_of_lt_of_le hj h.size) (fun e => by
      rcases hr j e.symm with h1 | h1
      · exact hne h1.symm
      · omega), h.block j hj hne]⟩
theorem Fresh.grownBy {w w' : World} (hf : Fresh w w') (row : Option Nat) : w.grownBy w' row := ⟨hf.os, hf.tape, hf.output, hf.size, fun k hk _ => hf.block k hk⟩
theorem Adds.refl {w : World} {B : Nat} {v : Value} {l : List Rw} (h : RBuf 90 w B v l) : Adds w B v l v w :=
  ⟨h, (Fresh.refl w).grownBy _, fun _ h => .inl h⟩
theorem Adds.more {w w1 w2 : World} {B : Nat} {v v1 v2 : Value} {l l2 : List Rw} (h : Adds w B v l v1 w1) (k : Adds w1 B v1 l2 v2 w2) : Adds w B v l2 v2 w2 := by
  have hs := h.2.1.size
  refine ⟨k.1, grownBy_trans h.2.1 k.2.1 h.2.2, fun g hg => ?_⟩
  rcases k.2.2 g hg with h1 | h1
  · exact h.2.2 g h1
  · exact .inr (by omega)
theorem Adds.fresh {w w1 w2 : World} {B : Nat} {v v1 : Value} {l : List Rw} (h : Adds w B v l v1 w1) (k : Fresh w1 w2) : Adds w B v l v1 w2 :=
  ⟨h.1.fresh k, grownBy_trans h.2.1 (k.grownBy none) (fun g e => by cases e), h.2.2⟩
/-- How far the rows of a line are made. -/
def RowsAt (n : Nat) (t : List UInt8) (acc out : List Rw) (a : Nat) : Prop := acc ++ rowsS n 0 t = out ++ rowsS n a (t.drop a)
theorem rowsAt_start (n : Nat) (t : List UInt8) (acc : List Rw) : RowsAt n t acc acc (blanks t) := by
  unfold RowsAt
  rw [rowsS_blanks n t 0, Nat.zero_add]
theorem rowsAt_dash {n : Nat} {t : List UInt8} {acc out : List Rw} {a : Nat} (H : RowsAt n t acc out a) (h : a < t.length) (e : dashB (t.drop a) = true) : RowsAt n t acc (out ++ [⟨n, a, true, []⟩]) (a + 1 + blanks (t.drop (a + 1))) := by
  unfold RowsAt at *
  rw [H, rowsS_dash n a t h e, rowsS_blanks n (t.drop (a + 1)) (a + 1), List.drop_drop]
  simp
theorem rowsAt_end {n : Nat} {t : List UInt8} {acc out : List Rw} {a : Nat} (H : RowsAt n t acc out a) (h : t.length ≤ a) : acc ++ rowsS n 0 t = out := by
  unfold RowsAt at *
  rw [H, rowsS_end n a t h]; simp
theorem rowsAt_text {n : Nat} {t : List UInt8} {acc out : List Rw} {a : Nat} (H : RowsAt n t acc out a) (h : a < t.length) (hc : t[a] ≠ 32) (e : dashB (t.drop a) = false) : acc ++ rowsS n 0 t = out ++ [⟨n, a, false, t.drop a⟩] := by
  unfold RowsAt at *
  rw [H, rowsS_text n a t h hc e]
theorem head_drop {l : List UInt8} {a : Nat} (h : a + blanks (l.drop a) < l.length) : l[a + blanks (l.drop a)] ≠ 32 := by
  have := blanks_head (l.drop a) (by rw [List.length_drop]; omega)
  rw [List.drop_drop, List.getElem?_drop, Nat.add_zero, List.getElem?_eq_getElem h] at this
  exact fun e => this (by rw [e])
set_option maxRecDepth 100000 in
set_option maxHeartbeats 4000000 in
theorem add_any (n : Nat) (s : ByteArray) (acc : List Rw) (B : Nat) (v : Value) (w : World) (hs : s.size ≤ 1000000) (hacc : acc.length ≤ 1000000000000) (hBw : B ≤ w.heap.size) (hb : RBuf 90 w B v acc) :
    Calls Tryz.prog 51 #[v, .int .i64 (n : Int), .string s] w fun e w' => ∃ v', e = .returned v' ∧ Adds w B v (acc ++ rowsS n 0 (Lib.trimRightB s.data.toList 32)) v' w' := by
  obtain ⟨i0, hi, hz0, hz1, hz2⟩ := info_parts info32
  have HTR := Lib.hid (fun W => trimR_any s W hs)
  obtain ⟨t, ht⟩ : ∃ t, t = Lib.trimRightB s.data.toList 32 := ⟨_, rfl⟩
  have htl : t.length ≤ 1000000 := by
    rw [ht]
    unfold Lib.trimRightB
    rw [List.length_reverse]
    have := (List.dropWhile_suffix (l := s.data.toList.reverse) (fun x => x == (32 : UInt8))).length_le
    simp at this
    simp; omega
  rw [← ht] at HTR ⊢
  have HPB := Lib.hid (fun a W ha => past_any t a W ha htl)
  have HDA := Lib.hid (fun a W => isDash_any (t.drop a) W)
  have HEX : Hid (∀ a, (tx t).extract a (tx t).size = tx (t.drop a)) := fun a => by
    rw [tx_extract, tx_toList, tx_size]
    congr 1
    rw [List.take_of_length_le (by simp)]
  have HSZ := Lib.hid (tx_size t)
  have HTL := Lib.hid htl
  have HB := Lib.hid hb
  have hv := hb
  have HBW := Lib.hid hBw
  have HACC := Lib.hid hacc
  have hP0 := Lib.hid (HPB.out 0 · (Nat.zero_le _))
  have hsz1 : (tx t).size ≤ 1000000 := by rw [HSZ.out]; exact htl
  obtain ⟨S, hS⟩ : ∃ S, S = tx t := ⟨_, rfl⟩
  rw [← hS] at HTR HEX HSZ HPB hsz1 hP0
  clear ht htl hb hBw hacc hv hS
  go_enter Tryz.func51, Tryz.ntmps51
  go_wp2_with (first | (go_at_call 79; refine (HTR.out _).mono ?_; rintro e w' ⟨rfl, rfl⟩) | (go_at_call 80; refine (hP0.out _).mono ?_; rintro e w' ⟨rfl, rfl⟩))
  go_loopw [0, 7] (fun a0 a7 wr => ∃ (a : Nat) (out : List Rw) (v1 : Value), a ≤ S.size ∧ v1 = a0 ∧ a7 = .int .i64 a ∧ Hid (RowsAt n t acc out a) ∧ Hid (∀ h : a < t.length, t[a] ≠ 32) ∧ Hid (out.length ≤ acc.length + a) ∧ Hid (Adds w B v out v1 wr)) (fun _ a7 _ => S.size - (intOf a7).toNat)
  case atStart =>
    have h0 := blanks_le t
    have h1 := HSZ.out
    refine ⟨blanks t, acc, v, by omega, rfl, by simp, rowsAt_start n t acc, fun h => ?_, by simp [Hid], Adds.refl HB.out⟩
    have := head_drop (l := t) (a := 0) (by simpa using h)
    simpa using this
  case round =>
    obtain ⟨a, out, v1, ha, rfl, rfl, HR, HH, HLEN, HA⟩ := hrel
    have q0 := HEX.out a
    have HD := Lib.hid (fun W => HDA.out a W)
    have hle : out.length ≤ 1000001000000 := by have h1 := HLEN.out; have h2 := HACC.out; omega
    have HBW1 : Hid (B ≤ wr.heap.size) := Nat.le_trans HBW.out HA.out.2.1.size
    by_cases hlt : a < S.size
    · have HLT : Hid (a < t.length) := by rw [Hid, ← HSZ.out]; exact hlt
      cases hd : dashB (t.drop a) with
      | true =>
        rw [hd] at HD
        have HN := Lib.hid (rowsAt_dash HR.out HLT.out hd)
        have HP := Lib.hid (fun W => HPB.out (a + 1) W HLT.out)
        have hbl := blanks_le (t.drop (a + 1))
        rw [List.length_drop] at hbl
        have HBL : Hid (a + 1 + blanks (t.drop (a + 1)) ≤ S.size) := by rw [Hid, HSZ.out]; have := HLT.out; omega
        have HNH : Hid (∀ h : a + 1 + blanks (t.drop (a + 1)) < t.length, t[a + 1 + blanks (t.drop (a + 1))] ≠ 32) := fun h => head_drop h
        have HCELL := Lib.hid (rnews 90 wr ⟨n, a, true, []⟩)
        clear hd hbl
        generalize tx (t.drop a) = d at *
        obtain ⟨a2, ha2⟩ : ∃ a2, a2 = a + 1 + blanks (t.drop (a + 1)) := ⟨_, rfl⟩
        rw [← ha2] at HN HP HBL
        have HNH2 : Hid (∀ h : a2 < t.length, t[a2] ≠ 32) := by rw [Hid, ha2]; exact HNH.out
        have HA2 : Hid (a < a2) := by rw [Hid, ha2]; omega
        have HP2 : Hid (∀ W, Calls Tryz.prog 80 #[.string S, .int .i64 ((a : Int) + 1)] W fun e w' => e = .returned (.int .i64 (a2 : Int)) ∧ W = w') := HP.out
        have hal : a ≤ 1000000 := by omega
        have ha2l : a2 ≤ 1000000 := by have := HBL.out; omega
        clear HP
        clear HNH ha2
        go_wp2_with (first | (go_at_call 81; refine (HD.out _).mono ?_; rintro e w' ⟨rfl, rfl⟩) | (at_builtin; refine Hid.out ?_))
        refine Lib.hid ?_
        refine wpList_append_lies _ rfl _ _ 55 rfl B 90 i0 (.agg #[.int .i64 0, .int .i64 0, .bool false, .string ⟨#[]⟩]) 4 40 Tryz.underlying55 hi hz0 hz1 hz2 rfl (by decide) v1 out.length (rcells out) rfl (World.ownsRow.alloc HA.out.1 _) ⟨wr.heap.size, 0, none⟩ 1 1 (rcell ⟨n, a, true, []⟩) rfl rfl HCELL.out (rcell_one _) (by decide) (by unfold maxLen; omega) (by omega) (by rw [World.size_alloc]; have := HBW1.out; omega) (wr.heap.size + 1) (by simp) ?_
        intro g cap w2 hown hgrow hat hlt2
        have HT2 := Lib.hid (RBuf.more hown)
        have HG2 := Lib.hid hgrow
        have HAT := Lib.hid hat
        clear hown hgrow hat hlt2
        have HS1 := Lib.hid (World.size_alloc wr (.cells #[.int .i64 (n : Int), .int .i64 (a : Int), .bool true, .string ⟨#[]⟩] 90))
        have HADDS : Hid (Adds wr B v1 (out ++ [⟨n, a, true, []⟩]) (.slice (some ⟨g, 0, none⟩) (out.length + 1) cap) w2) :=
          ⟨HT2.out, grownBy_trans (World.grownBy_alloc wr _ _) HG2.out (fun g e => .inl e), fun g' e => by
            simp only [Value.ownBlock, Option.some.injEq] at e
            subst e
            rcases HAT.out with h | h
            · exact .inl h
            · exact .inr (by omega)⟩
        have HADDS2 := Lib.hid (HA.out.more HADDS.out)
        clear HT2 HG2 HAT HS1 HADDS
        go_wp2_with (go_at_call 80; refine (HP2.out _).mono ?_; rintro e w' ⟨rfl, rfl⟩)
        go_roundw
        case rel => exact ⟨a2, out ++ [Rw.mk n a true []], _, HBL.out, rfl, rfl, HN.out, HNH2.out, by rw [Hid, List.length_append]; have := HLEN.out; have := HA2.out; simp; omega, HADDS2.out⟩
        case measure => simp [intOf]; have := HA2.out; have := HBL.out; omega
      | false =>
        rw [hd] at HD
        have HN := Lib.hid (rowsAt_text HR.out HLT.out (HH.out HLT.out) hd)
        have HCL := Lib.hid (fun W => clone_any (tx (t.drop a)) W (by rw [tx_size, List.length_drop]; have := HTL.out; omega))
        have e0 : ((a : Int) == (S.size : Int)) = false := by rw [beq_eq_false_iff_ne]; omega
        clear hd
        obtain ⟨x, hx⟩ : ∃ x, x = t.drop a := ⟨_, rfl⟩
        rw [← hx] at HD HN HCL q0
        clear hx
        go_wp2_with (go_at_call 81; refine (HD.out _).mono ?_; rintro e w' ⟨rfl, rfl⟩)
        all_goals try (exfalso; omega)
        refine (HCL.out _).mono ?_
        rintro e w1 ⟨rfl, hf⟩
        have HF := Lib.hid hf
        have HA1 := Lib.hid (HA.out.fresh hf)
        have HBW2 : Hid (B ≤ w1.heap.size) := Nat.le_trans HBW.out HA1.out.2.1.size
        have HCELL := Lib.hid (rnews 90 w1 ⟨n, a, false, x⟩)
        clear hf
        go_wp2_with (at_builtin; refine Hid.out ?_)
        refine Lib.hid ?_
        refine wpList_append_lies _ rfl _ _ 55 rfl B 90 i0 (.agg #[.int .i64 0, .int .i64 0, .bool false, .string ⟨#[]⟩]) 4 40 Tryz.underlying55 hi hz0 hz1 hz2 rfl (by decide) v1 out.length (rcells out) rfl (World.ownsRow.alloc HA1.out.1 _) ⟨w1.heap.size, 0, none⟩ 1 1 (rcell ⟨n, a, false, x⟩) rfl rfl HCELL.out (rcell_one _) (by decide) (by unfold maxLen; omega) (by omega) (by rw [World.size_alloc]; have := HBW2.out; omega) (w1.heap.size + 1) (by simp) ?_
        intro g cap w2 hown hgrow hat hlt2
        have HT2 := Lib.hid (RBuf.more hown)
        have HADDS : Hid (Adds w1 B v1 (out ++ [⟨n, a, false, x⟩]) (.slice (some ⟨g, 0, none⟩) (out.length + 1) cap) w2) :=
          ⟨HT2.out, grownBy_trans (World.grownBy_alloc w1 _ _) hgrow (fun g e => .inl e), fun g' e => by
            simp only [Value.ownBlock, Option.some.injEq] at e
            subst e
            rcases hat with h | h
            · exact .inl h
            · exact .inr (by omega)⟩
        have HADDS2 := Lib.hid (HA1.out.more HADDS.out)
        clear hown hgrow hat hlt2 HT2 HADDS
        go_wp2
        go_ret
        exact ⟨_, rfl, by rw [HN.out]; exact HADDS2.out⟩
    · obtain rfl : a = S.size := by omega
      have HN := Lib.hid (rowsAt_end HR.out (by rw [HSZ.out]; exact Nat.le_refl _))
      go_wp2
      all_goals try (exfalso; omega)
      go_ret
      exact ⟨v1, rfl, by rw [HN.out]; exact HA.out⟩
end Go.Proofs.YthhdadfnkdjmkaaGreatDoor
namespace Go.Proofs.YthhdadfnkdjmkaaGreatDoor
open Go.ChangeShapes Go.WideShapes Go.ChangeAt Go.RowKit
attribute [local go_sem ↓] Go.wp_at_zero Go.wp_at_succ
variable {w : World}

set_option maxRecDepth 100000 in
set_option maxHeartbeats 1000000 in
theorem may_any (s : ByteArray) (w : World) (hs : s.size ≤ 1000000) (hT : Tabs w) : Calls Tryz.prog 49 #[.string s] w fun e w' => e = .returned (.bool (!badL Lib.validD s.data.toList)) ∧ Fresh w w' := by
  have HU := Lib.hid (valid19_any s w hs hT)
  have hll : s.data.toList.length = s.size := by simp
  have HLL := Lib.hid hll
  clear hll hT
  go_enter Tryz.func49, Tryz.ntmps49
  go_wp2
  go_loop [6] (fun a6 => ∃ k : Nat, k ≤ s.size ∧ a6 = .int .i64 k ∧ Hid (lowB s.data.toList = lowB (s.data.toList.drop k))) (fun a6 => s.size - (intOf a6).toNat)
  case atStart => exact ⟨0, by omega, rfl, rfl⟩
  case round =>
    obtain ⟨i, hi, rfl, HI⟩ := hrel
    by_cases hlt : i < s.size
    · have HL' : Hid (i < s.data.toList.length) := by rw [Hid, HLL.out]; exact hlt
      have HB : Hid (s.data.toList[i]'HL'.out = s[i]'hlt) := rfl
      by_cases c32 : s[i].toNat < 32
      · have x32 : (s[i].toNat : Int) < 32 := by omega
        have HN := Lib.hid (badL_low Lib.validD (lowB_hit _ i HL'.out (by rw [HB.out]; exact c32) HI.out))
        clear c32
        go_wp2
        go_ret
        exact ⟨by rw [HN.out]; rfl, Fresh.refl _⟩
      · have x32 : ¬ (s[i].toNat : Int) < 32 := by omega
        have HN := Lib.hid (lowB_step _ i HL'.out (by rw [HB.out]; omega) HI.out)
        clear c32
        go_wp2
        go_round
        case rel => exact ⟨i + 1, by omega, by simp, HN.out⟩
        case measure => simp [intOf]; omega
    · have HLO := Lib.hid (badL_of Lib.validD (lowB_end _ i (by rw [HLL.out]; omega) HI.out))
      have hge : ¬ (i : Int) < (s.size : Int) := by omega
      go_wp2_with (fail)
      refine HU.out.mono ?_
      rintro e w' ⟨rfl, hf⟩
      have HF := Lib.hid hf
      clear hf
      go_wp2
      go_ret
      exact ⟨by rw [HLO.out, Bool.not_not]; rfl, HF.out⟩
end Go.Proofs.YthhdadfnkdjmkaaGreatDoor
