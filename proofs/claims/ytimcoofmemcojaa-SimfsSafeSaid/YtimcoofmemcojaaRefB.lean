/-
  The document's answer for layer 4: Remove, Rename.
-/
import Derived.Test.YtimcoofmemcojaaRefA
namespace Go.Proofs.Ytimcoofmemcojaa
open Go.ChangeShapes Go.WideShapes Go.ChangeAt Go.RowKit
variable {w : World}
def RAns (w : World) (r' : RSt) (code : Int) (e : Ending) (w' : World) : Prop := ∃ R', e = .returned (.tuple #[rval r' R', .int .i64 code]) ∧ RAt w' r' R' ∧ Fresh w w'
/-- A row of cells lies in no block of another type. -/
theorem own_type {B : Nat} {w w' : World} {t T : TypeId} {k n X : Nat} {v : Value} {xs : List Value} {cs : Array Value} {z : Nat × Nat} (h : w.ownsRow B t k v n xs) (hb : w.heap[X]? = some (.cells cs T z)) (hT : t ≠ T) (g : w.grownBy w' (some X)) : w'.ownsRow B t k v n xs :=
  own_other h g (fun b e => by
    rintro rfl
    rcases h.2 with ⟨e1, _⟩ | ⟨g', cap, cur, e1, _, hg, _⟩
    · rw [e1] at e; cases e
    · rw [e1] at e
      have e2 : g' = b := by simpa [Value.ownBlock] using e
      subst e2
      rw [hb] at hg
      injection hg with hg
      injection hg with _ h2
      exact hT h2.symm)
theorem RAt.box {w w' : World} {r : RSt} {R : RLay} {X : Nat} {cs : Array Value} {z : Nat × Nat} (h : RAt w r R) (hb : w.heap[X]? = some (.cells cs 31 z)) (g : w.grownBy w' (some X)) : RAt w' r R :=
  ⟨own_type h.files hb (by decide) g, own_type h.now hb (by decide) g, own_type h.safe hb (by decide) g, own_type h.wait hb (by decide) g⟩
set_option maxRecDepth 100000 in
set_option maxHeartbeats 2000000 in
theorem rremove_down (r : RSt) (R : RLay) (name : ByteArray) (w : World) (hd : r.down = true ∨ r.left = 0) (hat : RAt w r R) :
    Calls Try.prog 24 #[rval r R, .string name] w (RAns w (r.count r.steps r.left true) 17) := by
  have HS := Lib.hid (fun W => rstep_down r R W hd)
  have HAT := Lib.hid (hat.count r.steps r.left true)
  obtain ⟨fl, nl, sl, wl, left, steps, down⟩ := r
  obtain ⟨fa, fc, na, nc, sa, sc, wa, wc⟩ := R
  dsimp only [rval, RSt.count] at *
  clear hd hat
  go_enter Try.func24, Try.ntmps24
  go_wp2_with fail
  refine (HS.out _).mono ?_
  rintro e w1 ⟨rfl, hf⟩
  have b1 : RBox w1 w.heap.size _ _ _ _ _ _ _ := ⟨hf.at (at_alloc (at_new w _))⟩
  have b2 : RBox w1 (w.heap.size + 1) _ _ _ _ _ _ _ := ⟨hf.at (by have := at_new (w.alloc (.cells #[.slice fa fl.length fc, .slice na nl.length nc, .slice sa sl.length sc, .slice wa wl.length wc, .int .i64 left, .int .i64 steps, .bool down] 31)) (.cells #[.slice none 0 0, .slice none 0 0, .slice none 0 0, .slice none 0 0, .int .i64 0, .int .i64 0, .bool false] 31); rw [World.size_alloc] at this; exact this)⟩
  obtain ⟨⟨p0, p1, p2, p3, p4, p5, p6⟩, ⟨q0, q1, q2, q3, q4, q5, q6⟩⟩ := b1.cells
  obtain ⟨⟨s0, s1, s2, s3, s4, s5, s6⟩, ⟨t0, t1, t2, t3, t4, t5, t6⟩⟩ := b2.cells
  have HF := Lib.hid hf
  have hg1 := box_set b1 (.slice fa fl.length fc) (.slice na nl.length nc) (.slice sa sl.length sc) (.slice wa wl.length wc) (.int .i64 left) (.int .i64 steps) (.bool true)
  have HB1 := Lib.hid b1
  have HB2 := Lib.hid b2
  have HG1 := Lib.hid hg1
  clear hf b1 b2 HS hg1
  go_wp2
  have hfr := (((Fresh.refl w).alloc (.cells #[.slice fa fl.length fc, .slice na nl.length nc, .slice sa sl.length sc, .slice wa wl.length wc, .int .i64 left, .int .i64 steps, .bool down] 31)).alloc (.cells #[.slice none 0 0, .slice none 0 0, .slice none 0 0, .slice none 0 0, .int .i64 0, .int .i64 0, .bool false] 31)).trans HF.out
  have hz2 : RBox _ (w.heap.size + 1) _ _ _ _ _ _ _ := ⟨grown_keep HG1.out.2 HB2.out.at_ (by simp)⟩
  refine bodyPost_ret (v := .tuple #[.agg #[.slice fa fl.length fc, .slice na nl.length nc, .slice sa sl.length sc, .slice wa wl.length wc, .int .i64 left, .int .i64 steps, .bool true], .int .i64 17]) (by simp [results, Try.results24, go_sem, *]) rfl ⟨⟨fa, fc, na, nc, sa, sc, wa, wc⟩, rfl, ?_, ?_⟩
  · exact ((HAT.out.move hfr).box HB1.out.at_ HG1.out.2).box hz2.at_ (box_set hz2 _ _ _ _ _ _ _).2
  · repeat (refine Fresh.setCell ?_ (by simp) _)
    exact hfr
set_option maxRecDepth 100000 in
set_option maxHeartbeats 2000000 in
theorem rremove_go (r : RSt) (R : RLay) (name : ByteArray) (w : World) (hs : name.size ≤ maxLen) (hd : r.down = false) (hz : r.left ≠ 0) (hl : -1 ≤ r.left ∧ r.left ≤ 9223372036854775807) (hst : r.steps ≤ 1000000) (hn : r.now.length ≤ 800000) (hw : r.wait.length ≤ 800000) (hat : RAt w r R) :
    Calls Try.prog 24 #[rval r R, .string name] w fun e w' => ∃ r' c, RAns w r' c e w' ∧ ((nameB name = false ∧ c = 13 ∧ r' = r.step) ∨ (nameB name = true ∧ atL r.now name < 0 ∧ c = 16 ∧ r' = r.step) ∨ (nameB name = true ∧ 0 ≤ atL r.now name ∧ c = 0 ∧ r' = r.step.waits ⟨2, name, ⟨#[]⟩, 0⟩)) := by
  have HNAME := Lib.hid (fun W => rname_any name W hs)
  have HNL := Lib.hid hn
  have HWL := Lib.hid hw
  have HS := Lib.hid (fun W => rstep_ok r R W hd hz hl hst)
  have HAT0 := Lib.hid (hat.count (r.steps + 1) (lessOne r.left) false)
  obtain ⟨fl, nl, sl, wl, left, steps, down⟩ := r
  obtain ⟨fa, fc, na, nc, sa, sc, wa, wc⟩ := R
  dsimp only [rval, RSt.count, RSt.step] at *
  generalize lessOne left = left' at *
  generalize steps + 1 = st at *
  clear hd hz hl hst hat
  go_enter Try.func24, Try.ntmps24
  go_wp2_with fail
  refine (HS.out _).mono ?_
  rintro e w1 ⟨rfl, hf⟩
  have b1 : RBox w1 w.heap.size _ _ _ _ _ _ _ := ⟨hf.at (at_alloc (at_new w _))⟩
  obtain ⟨⟨p0, p1, p2, p3, p4, p5, p6⟩, ⟨q0, q1, q2, q3, q4, q5, q6⟩⟩ := b1.cells
  have HF := Lib.hid hf
  have HB := Lib.hid b1
  clear hf b1 HS
  have hb2 : w1.heap[w.heap.size + 1]? = some (.cells #[.slice none 0 0, .slice none 0 0, .slice none 0 0, .slice none 0 0, .int .i64 0, .int .i64 0, .bool false] 31 (0, 0)) := HF.out.at (by have := at_new (w.alloc (.cells #[.slice fa fl.length fc, .slice na nl.length nc, .slice sa sl.length sc, .slice wa wl.length wc, .int .i64 left, .int .i64 steps, .bool down] 31)) (.cells #[.slice none 0 0, .slice none 0 0, .slice none 0 0, .slice none 0 0, .int .i64 0, .int .i64 0, .bool false] 31); rw [World.size_alloc] at this; exact this)
  have H2 := Lib.hid hb2
  clear hb2
  go_upto_region 2 with (fail)
  obtain ⟨hbx, hgx⟩ := box_set HB.out (.slice fa fl.length fc) (.slice na nl.length nc) (.slice sa sl.length sc) (.slice wa wl.length wc) (.int .i64 left') (.int .i64 st) (.bool false)
  clear p0 p1 p2 p3 p4 p5 p6 q0 q1 q2 q3 q4 q5 q6
  generalize (((((((w1.setCell ⟨w.heap.size, 0, none⟩ (.slice fa fl.length fc)).setCell ⟨w.heap.size, 1, none⟩ (.slice na nl.length nc)).setCell ⟨w.heap.size, 2, none⟩ (.slice sa sl.length sc)).setCell ⟨w.heap.size, 3, none⟩ (.slice wa wl.length wc)).setCell ⟨w.heap.size, 4, none⟩ (.int .i64 left')).setCell ⟨w.heap.size, 5, none⟩ (.int .i64 st)).setCell ⟨w.heap.size, 6, none⟩ (.bool false)) = w2 at hbx hgx ⊢
  have HZ : Hid (RBox w2 (w.heap.size + 1) _ _ _ _ _ _ _) := ⟨(hgx.block _ (lt_of_at H2.out) (by simp)).trans H2.out⟩
  have HFR : Hid (Fresh w w2) := Below.grown ((((Fresh.refl w).alloc _).alloc _).trans HF.out) hgx (((((Fresh.refl w).alloc _).alloc _).trans HF.out).size) (fun k e => by cases e; exact Nat.le_refl _)
  have HAT : Hid (RAt w2 ⟨fl, nl, sl, wl, left', st, false⟩ ⟨fa, fc, na, nc, sa, sc, wa, wc⟩) := HAT0.out.move HFR.out
  have HBX := Lib.hid hbx
  clear hbx hgx H2 HF HB HAT0
  obtain ⟨⟨p0, p1, p2, p3, p4, p5, p6⟩, ⟨q0, q1, q2, q3, q4, q5, q6⟩⟩ := HBX.out.cells
  obtain ⟨⟨s0, s1, s2, s3, s4, s5, s6⟩, ⟨t0, t1, t2, t3, t4, t5, t6⟩⟩ := HZ.out.cells
  clear hn hw hs
  cases hnm : nameB name with
  | false =>
    rw [hnm] at HNAME
    have HNM := Lib.hid hnm
    clear hnm
    go_wp2_with fail
    refine (HNAME.out _).mono ?_
    rintro e w' ⟨rfl, rfl⟩
    go_wp2
    refine bodyPost_ret (v := .tuple #[.agg #[.slice fa fl.length fc, .slice na nl.length nc, .slice sa sl.length sc, .slice wa wl.length wc, .int .i64 left', .int .i64 st, .bool false], .int .i64 13]) (by simp [results, Try.results24, go_sem, *]) rfl ⟨⟨fl, nl, sl, wl, left', st, false⟩, 13, ⟨⟨fa, fc, na, nc, sa, sc, wa, wc⟩, rfl, HAT.out.box HZ.out.at_ (box_set HZ.out _ _ _ _ _ _ _).2, ?_⟩, ?_⟩
    · repeat (refine Fresh.setCell ?_ (by simp) _)
      exact HFR.out
    · exact .inl ⟨HNM.out, rfl, rfl⟩
  | true =>
    rw [hnm] at HNAME
    have HNM := Lib.hid hnm
    clear hnm
    have HATL := Lib.hid (fun W (h : Fresh w2 W) => at_any (w := W) (.slice na nl.length nc) nl name (by have := HNL.out; omega) (HAT.out.now.move h))
    by_cases hx : atL nl name < 0
    · have HX := Lib.hid hx
      go_wp2_with fail
      refine (HNAME.out _).mono ?_
      rintro e w' ⟨rfl, rfl⟩
      go_wp2_with fail
      refine (HATL.out _ (Fresh.refl _)).mono ?_
      rintro e w' ⟨rfl, rfl⟩
      go_wp2
      refine bodyPost_ret (v := .tuple #[.agg #[.slice fa fl.length fc, .slice na nl.length nc, .slice sa sl.length sc, .slice wa wl.length wc, .int .i64 left', .int .i64 st, .bool false], .int .i64 16]) (by simp [results, Try.results24, go_sem, *]) rfl ⟨⟨fl, nl, sl, wl, left', st, false⟩, 16, ⟨⟨fa, fc, na, nc, sa, sc, wa, wc⟩, rfl, HAT.out.box HZ.out.at_ (box_set HZ.out _ _ _ _ _ _ _).2, ?_⟩, ?_⟩
      · repeat (refine Fresh.setCell ?_ (by simp) _)
        exact HFR.out
      · exact .inr (.inl ⟨HNM.out, HX.out, rfl, rfl⟩)
    · have HX : Hid (0 ≤ atL nl name) := by rw [Hid]; omega
      have HWAIT := Lib.hid (fun W (h : Fresh w2 W) => rwait_any ⟨fl, nl, sl, wl, left', st, false⟩ ⟨fa, fc, na, nc, sa, sc, wa, wc⟩ ⟨2, name, ⟨#[]⟩, 0⟩ W (.inr (.inr rfl)) (by have := HNL.out; dsimp only; omega) (by have := HWL.out; dsimp only; omega) (HAT.out.move h))
      dsimp only [rval, dval, RSt.waits] at HWAIT
      go_wp2_with fail
      refine (HNAME.out _).mono ?_
      rintro e w' ⟨rfl, rfl⟩
      go_wp2_with fail
      refine (HATL.out _ (Fresh.refl _)).mono ?_
      rintro e w' ⟨rfl, rfl⟩
      go_wp2_with fail
      refine (HWAIT.out _ (Fresh.refl _)).mono ?_
      rintro e w3 ⟨R', rfl, hr3, hf3⟩
      obtain ⟨fa', fc', na', nc', sa', sc', wa', wc'⟩ := R'
      dsimp only at hr3 ⊢
      have HR3 := Lib.hid hr3
      have HZ3 : Hid (RBox w3 (w.heap.size + 1) _ _ _ _ _ _ _) := ⟨hf3.at HZ.out.at_⟩
      have HF3 := Lib.hid (HFR.out.trans hf3)
      clear s0 s1 s2 s3 s4 s5 s6 t0 t1 t2 t3 t4 t5 t6 p0 p1 p2 p3 p4 p5 p6 q0 q1 q2 q3 q4 q5 q6 hr3 hf3
      obtain ⟨⟨s0, s1, s2, s3, s4, s5, s6⟩, ⟨t0, t1, t2, t3, t4, t5, t6⟩⟩ := HZ3.out.cells
      generalize hnl : onL nl ⟨2, name, ⟨#[]⟩, 0⟩ = nl' at *
      generalize hwl : wl ++ [(⟨2, name, ⟨#[]⟩, 0⟩ : RDeed)] = wl' at *
      have HNEQ := Lib.hid (And.intro hnl hwl)
      clear hnl hwl
      go_wp2
      refine bodyPost_ret (v := .tuple #[.agg #[.slice fa' fl.length fc', .slice na' nl'.length nc', .slice sa' sl.length sc', .slice wa' wl'.length wc', .int .i64 left', .int .i64 st, .bool false], .int .i64 0]) (by simp [results, Try.results24, go_sem, *]) rfl ⟨⟨fl, nl', sl, wl', left', st, false⟩, 0, ⟨⟨fa', fc', na', nc', sa', sc', wa', wc'⟩, rfl, HR3.out.box HZ3.out.at_ (box_set HZ3.out _ _ _ _ _ _ _).2, ?_⟩, ?_⟩
      · repeat (refine Fresh.setCell ?_ (by simp) _)
        exact HF3.out
      · obtain ⟨e1, e2⟩ := HNEQ.out
        subst e1 e2
        exact .inr (.inr ⟨HNM.out, HX.out, rfl, rfl⟩)
end Go.Proofs.Ytimcoofmemcojaa
