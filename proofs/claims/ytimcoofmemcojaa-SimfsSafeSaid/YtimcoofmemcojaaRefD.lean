/-
  The document's answer for layer 4: Sync.
-/
import Derived.Test.YtimcoofmemcojaaRefB
import Derived.Deep.RegionHeld3
namespace Go.Proofs.Ytimcoofmemcojaa
open Go.ChangeShapes Go.WideShapes Go.ChangeAt Go.RowKit
variable {w : World}
set_option maxRecDepth 100000 in
set_option maxHeartbeats 2000000 in
theorem rsync_down (r : RSt) (R : RLay) (name : ByteArray) (w : World) (hd : r.down = true ∨ r.left = 0) (hat : RAt w r R) :
    Calls Try.prog 20 #[rval r R, .string name] w (RAns w (r.count r.steps r.left true) 17) := by
  have HS := Lib.hid (fun W => rstep_down r R W hd)
  have HAT := Lib.hid (hat.count r.steps r.left true)
  obtain ⟨fl, nl, sl, wl, left, steps, down⟩ := r
  obtain ⟨fa, fc, na, nc, sa, sc, wa, wc⟩ := R
  dsimp only [rval, RSt.count] at *
  clear hd hat
  go_enter Try.func20, Try.ntmps20
  go_wp2_with fail
  refine (HS.out _).mono ?_
  rintro e w1 ⟨rfl, hf⟩
  have b1 : RBox w1 w.heap.size _ _ _ _ _ _ _ := ⟨hf.at (at_alloc (at_new w _))⟩
  have b2 : RBox w1 (w.heap.size + 1) _ _ _ _ _ _ _ := ⟨hf.at (by have := at_new (w.alloc (.cells #[.slice fa fl.length fc, .slice na nl.length nc, .slice sa sl.length sc, .slice wa wl.length wc, .int .i64 left, .int .i64 steps, .bool down] 31)) (.cells #[.slice none 0 0, .slice none 0 0, .slice none 0 0, .slice none 0 0, .int .i64 0, .int .i64 0, .bool false] 31); rw [World.size_alloc] at this; exact this)⟩
  obtain ⟨⟨p0, p1, p2, p3, p4, p5, p6⟩, ⟨q0, q1, q2, q3, q4, q5, q6⟩⟩ := b1.cells
  obtain ⟨⟨s0, s1, s2, s3, s4, s5, s6⟩, ⟨t0, t1, t2, t3, t4, t5, t6⟩⟩ := b2.cells
  have HF := Lib.hid hf
  have hg1 := box_set b1 (.slice fa fl.length fc) (.slice na nl.length nc) (.slice sa sl.length sc) (.slice wa wl.length wc) (.int .i64 left) (.int .i64 steps) (.bool true)
  have HB1 := Lib.hid b1
  have HB2 := Lib.hid b2
  have HG1 := Lib.hid hg1
  clear hf b1 b2 HS hg1
  go_wp2
  have hfr := (((Fresh.refl w).alloc (.cells #[.slice fa fl.length fc, .slice na nl.length nc, .slice sa sl.length sc, .slice wa wl.length wc, .int .i64 left, .int .i64 steps, .bool down] 31)).alloc (.cells #[.slice none 0 0, .slice none 0 0, .slice none 0 0, .slice none 0 0, .int .i64 0, .int .i64 0, .bool false] 31)).trans HF.out
  have hz2 : RBox _ (w.heap.size + 1) _ _ _ _ _ _ _ := ⟨grown_keep HG1.out.2 HB2.out.at_ (by simp)⟩
  refine bodyPost_ret (v := .tuple #[.agg #[.slice fa fl.length fc, .slice na nl.length nc, .slice sa sl.length sc, .slice wa wl.length wc, .int .i64 left, .int .i64 steps, .bool true], .int .i64 17]) (by simp [results, Try.results20, go_sem, *]) rfl ⟨⟨fa, fc, na, nc, sa, sc, wa, wc⟩, rfl, ?_, ?_⟩
  · exact ((HAT.out.move hfr).box HB1.out.at_ HG1.out.2).box hz2.at_ (box_set hz2 _ _ _ _ _ _ _).2
  · repeat (refine Fresh.setCell ?_ (by simp) _)
    exact hfr
set_option maxRecDepth 100000 in
set_option maxHeartbeats 2000000 in
theorem rsync_go (r : RSt) (R : RLay) (name : ByteArray) (w : World) (hs : name.size ≤ maxLen) (hd : r.down = false) (hz : r.left ≠ 0) (hl : -1 ≤ r.left ∧ r.left ≤ 9223372036854775807) (hst : r.steps ≤ 1000000) (hn : r.now.length ≤ 800000) (hw : r.wait.length ≤ 800000) (hat : RAt w r R) (hfl : r.files.length ≤ 800000) (hnum : NumOk r.now r.files.length) :
    Calls Try.prog 20 #[rval r R, .string name] w fun e w' => ∃ r' c, RAns w r' c e w' ∧ ((nameB name = false ∧ c = 13 ∧ r' = r.step) ∨ (nameB name = true ∧ atL r.now name < 0 ∧ c = 16 ∧ r' = r.step) ∨ (nameB name = true ∧ 0 ≤ atL r.now name ∧ c = 0 ∧ ∃ i x, r' = r.step.setF i x)) := by
  have HNAME := Lib.hid (fun W => rname_any name W hs)
  have HNL := Lib.hid hn
  have HNUM := Lib.hid hnum
  have HFL := Lib.hid hfl
  have HORIG := Lib.hid hat.files
  have HS := Lib.hid (fun W => rstep_ok r R W hd hz hl hst)
  have HAT0 := Lib.hid (hat.count (r.steps + 1) (lessOne r.left) false)
  obtain ⟨fl, nl, sl, wl, left, steps, down⟩ := r
  obtain ⟨fa, fc, na, nc, sa, sc, wa, wc⟩ := R
  dsimp only [rval, RSt.count, RSt.step] at *
  generalize lessOne left = left' at *
  generalize steps + 1 = st at *
  clear hd hz hl hst hat
  go_enter Try.func20, Try.ntmps20
  go_wp2_with fail
  refine (HS.out _).mono ?_
  rintro e w1 ⟨rfl, hf⟩
  have b1 : RBox w1 w.heap.size _ _ _ _ _ _ _ := ⟨hf.at (at_alloc (at_new w _))⟩
  obtain ⟨⟨p0, p1, p2, p3, p4, p5, p6⟩, ⟨q0, q1, q2, q3, q4, q5, q6⟩⟩ := b1.cells
  have HF := Lib.hid hf
  have HB := Lib.hid b1
  clear hf b1 HS
  have hb2 : w1.heap[w.heap.size + 1]? = some (.cells #[.slice none 0 0, .slice none 0 0, .slice none 0 0, .slice none 0 0, .int .i64 0, .int .i64 0, .bool false] 31 (0, 0)) := HF.out.at (by have := at_new (w.alloc (.cells #[.slice fa fl.length fc, .slice na nl.length nc, .slice sa sl.length sc, .slice wa wl.length wc, .int .i64 left, .int .i64 steps, .bool down] 31)) (.cells #[.slice none 0 0, .slice none 0 0, .slice none 0 0, .slice none 0 0, .int .i64 0, .int .i64 0, .bool false] 31); rw [World.size_alloc] at this; exact this)
  have H2 := Lib.hid hb2
  clear hb2
  go_upto_region 2 with (fail)
  obtain ⟨hbx, hgx⟩ := box_set HB.out (.slice fa fl.length fc) (.slice na nl.length nc) (.slice sa sl.length sc) (.slice wa wl.length wc) (.int .i64 left') (.int .i64 st) (.bool false)
  clear p0 p1 p2 p3 p4 p5 p6 q0 q1 q2 q3 q4 q5 q6
  generalize (((((((w1.setCell ⟨w.heap.size, 0, none⟩ (.slice fa fl.length fc)).setCell ⟨w.heap.size, 1, none⟩ (.slice na nl.length nc)).setCell ⟨w.heap.size, 2, none⟩ (.slice sa sl.length sc)).setCell ⟨w.heap.size, 3, none⟩ (.slice wa wl.length wc)).setCell ⟨w.heap.size, 4, none⟩ (.int .i64 left')).setCell ⟨w.heap.size, 5, none⟩ (.int .i64 st)).setCell ⟨w.heap.size, 6, none⟩ (.bool false)) = w2 at hbx hgx ⊢
  have HZ : Hid (RBox w2 (w.heap.size + 1) _ _ _ _ _ _ _) := ⟨(hgx.block _ (lt_of_at H2.out) (by simp)).trans H2.out⟩
  have HFR : Hid (Fresh w w2) := Below.grown ((((Fresh.refl w).alloc _).alloc _).trans HF.out) hgx (((((Fresh.refl w).alloc _).alloc _).trans HF.out).size) (fun k e => by cases e; exact Nat.le_refl _)
  have HAT : Hid (RAt w2 ⟨fl, nl, sl, wl, left', st, false⟩ ⟨fa, fc, na, nc, sa, sc, wa, wc⟩) := HAT0.out.move HFR.out
  have HBX := Lib.hid hbx
  clear hbx hgx H2 HF HB HAT0
  obtain ⟨⟨p0, p1, p2, p3, p4, p5, p6⟩, ⟨q0, q1, q2, q3, q4, q5, q6⟩⟩ := HBX.out.cells
  obtain ⟨⟨s0, s1, s2, s3, s4, s5, s6⟩, ⟨t0, t1, t2, t3, t4, t5, t6⟩⟩ := HZ.out.cells
  clear hn hw hs hfl hnum
  cases hnm : nameB name with
  | false =>
    rw [hnm] at HNAME
    have HNM := Lib.hid hnm
    clear hnm
    go_wp2_with fail
    refine (HNAME.out _).mono ?_
    rintro e w' ⟨rfl, rfl⟩
    go_wp2
    refine bodyPost_ret (v := .tuple #[.agg #[.slice fa fl.length fc, .slice na nl.length nc, .slice sa sl.length sc, .slice wa wl.length wc, .int .i64 left', .int .i64 st, .bool false], .int .i64 13]) (by simp [results, Try.results20, go_sem, *]) rfl ⟨⟨fl, nl, sl, wl, left', st, false⟩, 13, ⟨⟨fa, fc, na, nc, sa, sc, wa, wc⟩, rfl, HAT.out.box HZ.out.at_ (box_set HZ.out _ _ _ _ _ _ _).2, ?_⟩, ?_⟩
    · repeat (refine Fresh.setCell ?_ (by simp) _)
      exact HFR.out
    · exact .inl ⟨HNM.out, rfl, rfl⟩
  | true =>
    rw [hnm] at HNAME
    have HNM := Lib.hid hnm
    clear hnm
    have HATL := Lib.hid (fun W (h : Fresh w2 W) => at_any (w := W) (.slice na nl.length nc) nl name (by have := HNL.out; omega) (HAT.out.now.move h))
    by_cases hx : atL nl name < 0
    · have HX := Lib.hid hx
      go_wp2_with fail
      refine (HNAME.out _).mono ?_
      rintro e w' ⟨rfl, rfl⟩
      go_wp2_with fail
      refine (HATL.out _ (Fresh.refl _)).mono ?_
      rintro e w' ⟨rfl, rfl⟩
      go_wp2
      refine bodyPost_ret (v := .tuple #[.agg #[.slice fa fl.length fc, .slice na nl.length nc, .slice sa sl.length sc, .slice wa wl.length wc, .int .i64 left', .int .i64 st, .bool false], .int .i64 16]) (by simp [results, Try.results20, go_sem, *]) rfl ⟨⟨fl, nl, sl, wl, left', st, false⟩, 16, ⟨⟨fa, fc, na, nc, sa, sc, wa, wc⟩, rfl, HAT.out.box HZ.out.at_ (box_set HZ.out _ _ _ _ _ _ _).2, ?_⟩, ?_⟩
      · repeat (refine Fresh.setCell ?_ (by simp) _)
        exact HFR.out
      · exact .inr (.inl ⟨HNM.out, HX.out, rfl, rfl⟩)
    · have HX : Hid (0 ≤ atL nl name) := by rw [Hid]; omega
      have hlt : atL nl name < fl.length := by
        rcases HNUM.out.at name with h | h
        · exact absurd (by omega : atL nl name < 0) hx
        · exact h.2
      obtain ⟨i, hi⟩ : ∃ i : Nat, atL nl name = (i : Int) := ⟨(atL nl name).toNat, by omega⟩
      rw [hi] at HATL hlt
      clear hi hx
      have hil : i < fl.length := by omega
      obtain ⟨g, cap, hfe, _, hglt⟩ := HAT.out.files.form (by dsimp only; omega)
      injection hfe with e1 e2 e3
      subst e1 e3
      obtain ⟨⟨x1, x2⟩, hxe⟩ : ∃ x, fl[i]? = some x := ⟨_, List.getElem?_eq_getElem hil⟩
      have hg0 : w2.cell? ⟨g, i * 2, none⟩ = some (.string x1) := (HAT.out.files.cellAt (i * 2) (by dsimp only; omega)).trans (rf_get fl i _ hxe).1
      have HSET := Lib.hid (fun W (h : Fresh w2 W) => rset_any ⟨fl, nl, sl, wl, left', st, false⟩ ⟨some ⟨g, 0, none⟩, fc, na, nc, sa, sc, wa, wc⟩ i (x1, x1) W hil (by have := HFL.out; dsimp only; omega) (HAT.out.move h))
      dsimp only [rval, RSt.setF] at HSET
      have h0i : (0 : Int) ≤ (i : Int) := by omega
      have hglow := (World.ownsRow.lt HORIG.out g rfl).2
      have hne1 : ¬ g = w.heap.size + 1 := by omega
      have hne2 : ¬ w.heap.size + 1 = g := by omega
      have hne3 : ¬ g = w.heap.size := by omega
      clear hglow
      have HG : Hid (∀ W, Fresh w2.drew W → W.cell? ⟨g, i * 2, none⟩ = some (.string x1)) := fun W h => by
        rw [World.cell?_of_block (a := ⟨g, i * 2, none⟩) (h.block g hglt)]; exact hg0
      clear e2 hxe hglt hil
      go_wp2_with fail
      refine (HNAME.out _).mono ?_
      rintro e w' ⟨rfl, rfl⟩
      go_wp2_with fail
      refine (HATL.out _ (Fresh.refl _)).mono ?_
      rintro e w' ⟨rfl, rfl⟩
      go_wp2
      go_region_held3 (fun w' => (w'.cell? ⟨w.heap.size, 0, none⟩ = some (.slice (some ⟨g, 0, none⟩) fl.length fc) ∧ w'.cell? ⟨w.heap.size, 1, none⟩ = some (.slice na nl.length nc) ∧ w'.cell? ⟨w.heap.size, 2, none⟩ = some (.slice sa sl.length sc) ∧ w'.cell? ⟨w.heap.size, 3, none⟩ = some (.slice wa wl.length wc) ∧ w'.cell? ⟨w.heap.size, 4, none⟩ = some (.int .i64 left') ∧ w'.cell? ⟨w.heap.size, 5, none⟩ = some (.int .i64 st) ∧ w'.cell? ⟨w.heap.size, 6, none⟩ = some (.bool false) ∧ w'.cell? ⟨g, i * 2, none⟩ = some (.string x1))) (go_keep)
        (first
          | (go_at_call 39; (with_reducible refine (HSET.out _ (Fresh.refl _).drew).mono ?_); rintro e w3 ⟨⟨fa', fc', na', nc', sa', sc', wa', wc'⟩, rfl, hr3, hf3⟩; have HR3 := Lib.hid hr3; have HZ3 := Lib.hid (RBox.mk (hf3.at (show w2.drew.heap[w.heap.size + 1]? = _ from HZ.out.at_))); have HF3 := Lib.hid (HFR.out.trans ((Fresh.refl w2).drew.trans hf3)); have HB3 := Lib.hid (RBox.mk (hf3.at (show w2.drew.heap[w.heap.size]? = _ from HBX.out.at_))); obtain ⟨⟨a0, a1, a2, a3, a4, a5, a6⟩, _⟩ := HB3.out.cells; obtain ⟨⟨b0, b1, b2, b3, b4, b5, b6⟩, ⟨c0, c1, c2, c3, c4, c5, c6⟩⟩ := HZ3.out.cells; have ag := HG.out _ hf3; clear hr3 hf3))
      go_wp2
      refine bodyPost_ret (v := .tuple #[.agg #[.slice fa' (fl.set i (x1, x1)).length fc', .slice na' nl.length nc', .slice sa' sl.length sc', .slice wa' wl.length wc', .int .i64 left', .int .i64 st, .bool false], .int .i64 0]) (by simp [results, Try.results20, go_sem, *]) rfl ⟨⟨fl.set i (x1, x1), nl, sl, wl, left', st, false⟩, 0, ⟨⟨fa', fc', na', nc', sa', sc', wa', wc'⟩, rfl, HR3.out.box HZ3.out.at_ (box_set HZ3.out _ _ _ _ _ _ _).2, ?_⟩, ?_⟩
      · repeat (refine Fresh.setCell ?_ (by simp) _)
        exact HF3.out
      · exact .inr (.inr ⟨HNM.out, HX.out, rfl, i, (x1, x1), rfl⟩)
end Go.Proofs.Ytimcoofmemcojaa
