/-
  The document's answer for layer 4: Write.
-/
import Derived.Test.YtimcoofmemcojaaRefB
import Derived.Deep.RegionHeld3
namespace Go.Proofs.Ytimcoofmemcojaa
open Go.ChangeShapes Go.WideShapes Go.ChangeAt Go.RowKit
variable {w : World}
def RSt.more (r : RSt) : RSt := { r with files := r.files ++ [(⟨#[]⟩, ⟨#[]⟩)] }
theorem own_ne {B : Nat} {w : World} {t T : TypeId} {k n n' g c X : Nat} {xs : List Value} {cs : Array Value} {z : Nat × Nat} (h : w.ownsRow B t k (.slice (some ⟨g, 0, none⟩) n' c) n xs) (hb : w.heap[X]? = some (.cells cs T z)) (hT : t ≠ T) : ¬ g = X := by
  rintro rfl
  rcases h.2 with ⟨e1, _⟩ | ⟨g', cap, cur, e1, _, hg, _⟩
  · cases e1
  · injection e1 with e1 _ _
    injection e1 with e1
    injection e1 with e1 _ _
    subst e1
    rw [hb] at hg
    injection hg with hg
    injection hg with _ h2
    exact hT h2.symm
theorem RBox.set0 {W : World} {b : Nat} {c0 c1 c2 c3 c4 c5 c6 : Value} (h : RBox W b c0 c1 c2 c3 c4 c5 c6) (v : Value) : RBox (W.setCell ⟨b, 0, none⟩ v) b v c1 c2 c3 c4 c5 c6 := by
  refine ⟨?_⟩
  simp [World.setCell, Array.getElem?_modify, h.at_]
theorem rf_snoc (l : List RFile) (x : RFile) : rfCells (l ++ [x]) = rfCells l ++ [.string x.1, .string x.2] := by simp [rfCells]
set_option maxRecDepth 100000 in
set_option maxHeartbeats 2000000 in
theorem rwrite_down (r : RSt) (R : RLay) (name data : ByteArray) (w : World) (hd : r.down = true ∨ r.left = 0) (hat : RAt w r R) :
    Calls Try.prog 19 #[rval r R, .string name, .string data] w (RAns w (r.count r.steps r.left true) 17) := by
  have HS := Lib.hid (fun W => rstep_down r R W hd)
  have HAT := Lib.hid (hat.count r.steps r.left true)
  obtain ⟨fl, nl, sl, wl, left, steps, down⟩ := r
  obtain ⟨fa, fc, na, nc, sa, sc, wa, wc⟩ := R
  dsimp only [rval, RSt.count] at *
  clear hd hat
  go_enter Try.func19, Try.ntmps19
  go_wp2_with fail
  refine (HS.out _).mono ?_
  rintro e w1 ⟨rfl, hf⟩
  have b1 : RBox w1 w.heap.size _ _ _ _ _ _ _ := ⟨hf.at (at_alloc (at_new w _))⟩
  have b2 : RBox w1 (w.heap.size + 1) _ _ _ _ _ _ _ := ⟨hf.at (by have := at_new (w.alloc (.cells #[.slice fa fl.length fc, .slice na nl.length nc, .slice sa sl.length sc, .slice wa wl.length wc, .int .i64 left, .int .i64 steps, .bool down] 31)) (.cells #[.slice none 0 0, .slice none 0 0, .slice none 0 0, .slice none 0 0, .int .i64 0, .int .i64 0, .bool false] 31); rw [World.size_alloc] at this; exact this)⟩
  obtain ⟨⟨p0, p1, p2, p3, p4, p5, p6⟩, ⟨q0, q1, q2, q3, q4, q5, q6⟩⟩ := b1.cells
  obtain ⟨⟨s0, s1, s2, s3, s4, s5, s6⟩, ⟨t0, t1, t2, t3, t4, t5, t6⟩⟩ := b2.cells
  have HF := Lib.hid hf
  have hg1 := box_set b1 (.slice fa fl.length fc) (.slice na nl.length nc) (.slice sa sl.length sc) (.slice wa wl.length wc) (.int .i64 left) (.int .i64 steps) (.bool true)
  have HB1 := Lib.hid b1
  have HB2 := Lib.hid b2
  have HG1 := Lib.hid hg1
  clear hf b1 b2 HS hg1
  go_wp2
  have hfr := (((Fresh.refl w).alloc (.cells #[.slice fa fl.length fc, .slice na nl.length nc, .slice sa sl.length sc, .slice wa wl.length wc, .int .i64 left, .int .i64 steps, .bool down] 31)).alloc (.cells #[.slice none 0 0, .slice none 0 0, .slice none 0 0, .slice none 0 0, .int .i64 0, .int .i64 0, .bool false] 31)).trans HF.out
  have hz2 : RBox _ (w.heap.size + 1) _ _ _ _ _ _ _ := ⟨grown_keep HG1.out.2 HB2.out.at_ (by simp)⟩
  refine bodyPost_ret (v := .tuple #[.agg #[.slice fa fl.length fc, .slice na nl.length nc, .slice sa sl.length sc, .slice wa wl.length wc, .int .i64 left, .int .i64 steps, .bool true], .int .i64 17]) (by simp [results, Try.results19, go_sem, *]) rfl ⟨⟨fa, fc, na, nc, sa, sc, wa, wc⟩, rfl, ?_, ?_⟩
  · exact ((HAT.out.move hfr).box HB1.out.at_ HG1.out.2).box hz2.at_ (box_set hz2 _ _ _ _ _ _ _).2
  · repeat (refine Fresh.setCell ?_ (by simp) _)
    exact hfr
set_option maxRecDepth 100000 in
set_option maxHeartbeats 8000000 in
theorem rwrite_go (r : RSt) (R : RLay) (name data : ByteArray) (w : World) (hs : name.size ≤ maxLen) (hdt : data.size ≤ 8388608) (hd : r.down = false) (hz : r.left ≠ 0) (hl : -1 ≤ r.left ∧ r.left ≤ 9223372036854775807) (hst : r.steps ≤ 1000000) (hn : r.now.length ≤ 800000) (hw : r.wait.length ≤ 800000) (hat : RAt w r R) (hfl : r.files.length ≤ 800000) (hnum : NumOk r.now r.files.length) :
    Calls Try.prog 19 #[rval r R, .string name, .string data] w fun e w' => ∃ r' c, RAns w r' c e w' ∧ ((nameB name = false ∧ c = 13 ∧ r' = r.step) ∨ (nameB name = true ∧ 0 ≤ atL r.now name ∧ c = 0 ∧ ∃ i x, r' = r.step.setF i x) ∨ (nameB name = true ∧ atL r.now name < 0 ∧ c = 0 ∧ ∃ i x, r' = (r.step.more.waits ⟨0, ⟨#[]⟩, name, (r.files.length : Nat)⟩).setF i x)) := by
  have HNAME := Lib.hid (fun W => rname_any name W hs)
  have hdt2 : ¬ (8388608 : Int) < (data.size : Int) := by omega
  have hdt3 : (data.size : Int) ≤ 8388608 := by omega
  have HNL := Lib.hid hn
  have HWL := Lib.hid hw
  have HNUM := Lib.hid hnum
  have HFL := Lib.hid hfl
  have HS := Lib.hid (fun W => rstep_ok r R W hd hz hl hst)
  have HAT0 := Lib.hid (hat.count (r.steps + 1) (lessOne r.left) false)
  obtain ⟨fl, nl, sl, wl, left, steps, down⟩ := r
  obtain ⟨fa, fc, na, nc, sa, sc, wa, wc⟩ := R
  dsimp only [rval, RSt.count, RSt.step] at *
  generalize lessOne left = left' at *
  generalize steps + 1 = st at *
  clear hd hz hl hst hat
  go_enter Try.func19, Try.ntmps19
  go_wp2_with fail
  refine (HS.out _).mono ?_
  rintro e w1 ⟨rfl, hf⟩
  have b1 : RBox w1 w.heap.size _ _ _ _ _ _ _ := ⟨hf.at (at_alloc (at_new w _))⟩
  obtain ⟨⟨p0, p1, p2, p3, p4, p5, p6⟩, ⟨q0, q1, q2, q3, q4, q5, q6⟩⟩ := b1.cells
  have HF := Lib.hid hf
  have HB := Lib.hid b1
  clear hf b1 HS
  have hb2 : w1.heap[w.heap.size + 1]? = some (.cells #[.slice none 0 0, .slice none 0 0, .slice none 0 0, .slice none 0 0, .int .i64 0, .int .i64 0, .bool false] 31 (0, 0)) := HF.out.at (by have := at_new (w.alloc (.cells #[.slice fa fl.length fc, .slice na nl.length nc, .slice sa sl.length sc, .slice wa wl.length wc, .int .i64 left, .int .i64 steps, .bool down] 31)) (.cells #[.slice none 0 0, .slice none 0 0, .slice none 0 0, .slice none 0 0, .int .i64 0, .int .i64 0, .bool false] 31); rw [World.size_alloc] at this; exact this)
  have H2 := Lib.hid hb2
  clear hb2
  go_upto_region 2 with (fail)
  obtain ⟨hbx, hgx⟩ := box_set HB.out (.slice fa fl.length fc) (.slice na nl.length nc) (.slice sa sl.length sc) (.slice wa wl.length wc) (.int .i64 left') (.int .i64 st) (.bool false)
  clear p0 p1 p2 p3 p4 p5 p6 q0 q1 q2 q3 q4 q5 q6
  generalize (((((((w1.setCell ⟨w.heap.size, 0, none⟩ (.slice fa fl.length fc)).setCell ⟨w.heap.size, 1, none⟩ (.slice na nl.length nc)).setCell ⟨w.heap.size, 2, none⟩ (.slice sa sl.length sc)).setCell ⟨w.heap.size, 3, none⟩ (.slice wa wl.length wc)).setCell ⟨w.heap.size, 4, none⟩ (.int .i64 left')).setCell ⟨w.heap.size, 5, none⟩ (.int .i64 st)).setCell ⟨w.heap.size, 6, none⟩ (.bool false)) = w2 at hbx hgx ⊢
  have HZ : Hid (RBox w2 (w.heap.size + 1) _ _ _ _ _ _ _) := ⟨(hgx.block _ (lt_of_at H2.out) (by simp)).trans H2.out⟩
  have HFR : Hid (Fresh w w2) := Below.grown ((((Fresh.refl w).alloc _).alloc _).trans HF.out) hgx (((((Fresh.refl w).alloc _).alloc _).trans HF.out).size) (fun k e => by cases e; exact Nat.le_refl _)
  have HAT : Hid (RAt w2 ⟨fl, nl, sl, wl, left', st, false⟩ ⟨fa, fc, na, nc, sa, sc, wa, wc⟩) := HAT0.out.move HFR.out
  have HBX := Lib.hid hbx
  clear hbx hgx H2 HF HB HAT0
  obtain ⟨⟨p0, p1, p2, p3, p4, p5, p6⟩, ⟨q0, q1, q2, q3, q4, q5, q6⟩⟩ := HBX.out.cells
  obtain ⟨⟨s0, s1, s2, s3, s4, s5, s6⟩, ⟨t0, t1, t2, t3, t4, t5, t6⟩⟩ := HZ.out.cells
  clear hn hw hs hfl hnum
  cases hnm : nameB name with
  | false =>
    rw [hnm] at HNAME
    have HNM := Lib.hid hnm
    clear hnm
    go_wp2_with fail
    refine (HNAME.out _).mono ?_
    rintro e w' ⟨rfl, rfl⟩
    go_wp2
    refine bodyPost_ret (v := .tuple #[.agg #[.slice fa fl.length fc, .slice na nl.length nc, .slice sa sl.length sc, .slice wa wl.length wc, .int .i64 left', .int .i64 st, .bool false], .int .i64 13]) (by simp [results, Try.results19, go_sem, *]) rfl ⟨⟨fl, nl, sl, wl, left', st, false⟩, 13, ⟨⟨fa, fc, na, nc, sa, sc, wa, wc⟩, rfl, HAT.out.box HZ.out.at_ (box_set HZ.out _ _ _ _ _ _ _).2, ?_⟩, ?_⟩
    · repeat (refine Fresh.setCell ?_ (by simp) _)
      exact HFR.out
    · exact .inl ⟨HNM.out, rfl, rfl⟩
  | true =>
    rw [hnm] at HNAME
    have HNM := Lib.hid hnm
    clear hnm
    have HATL := Lib.hid (fun W (h : Fresh w2 W) => at_any (w := W) (.slice na nl.length nc) nl name (by have := HNL.out; omega) (HAT.out.now.move h))
    by_cases hx : atL nl name < 0
    · have HX := Lib.hid hx
      have hm0 : fl.length ≤ maxLen := by have := HFL.out; unfold maxLen; omega
      have hm3 : fl.length * 32 ≤ 140737488355328 := by have := HFL.out; omega
      have hm1 : fl.length + 1 ≤ maxLen := by have := HFL.out; unfold maxLen; omega
      have hm2 : (fl.length + 1) * 32 ≤ 140737488355328 := by have := HFL.out; omega
      obtain ⟨i0, hi0, hz0, hz1, hz2⟩ := info_parts info78
      have HR1 := Lib.hid (rf_one fl)
      have HE1 : Hid (∀ x ∈ [Value.string ⟨#[]⟩, .string ⟨#[]⟩], x.oneCell' = true) := fun x hx => by
        simp only [List.mem_cons, List.not_mem_nil, or_false] at hx
        rcases hx with rfl | rfl <;> rfl
      go_wp2_with fail
      refine (HNAME.out _).mono ?_
      rintro e w' ⟨rfl, rfl⟩
      go_wp2_with fail
      refine (HATL.out _ (Fresh.refl _)).mono ?_
      rintro e w' ⟨rfl, rfl⟩
      have pe0 := cell_of_at (at_alloc (p := .cells #[] 78) HBX.out.at_) (i := 0) rfl
      go_wp2_with (at_builtin; refine Hid.out ?_)
      refine Lib.hid ?_
      have hX := at_new w2 (.cells #[] 78)
      have fE := (Fresh.refl w2).alloc (.cells #[] 78)
      have hrow : (w2.alloc (.cells #[] 78)).ownsRow 0 78 2 (.slice fa fl.length fc) fl.length (rfCells fl) := owns_move HAT.out.files fE
      refine wpList_copy _ rfl _ _ 27 rfl 78 i0 _ 2 32 Try.underlying27 hi0 hz0 hz1 hz2 rfl (by decide) w2.heap.size rfl hX (.slice fa fl.length fc) fl.length (rfCells fl) rfl hrow HR1.out hm0 hm3 ?_
      intro g1 cap1 w3 hown hgrow hat
      have hf3 : Fresh w2 w3 := Below.grown fE hgrow fE.size (fun k e => by cases e; exact Nat.le_refl _)
      have HOW := Lib.hid hown
      have HF3 := Lib.hid hf3
      clear hX fE hrow hown hgrow hat hf3
      have HNEW := Lib.hid (World.news_of_block (at_new w3 (.cells #[.string ⟨#[]⟩, .string ⟨#[]⟩] 78)))
      have HLOW : Hid (w2.heap.size ≤ (w3.alloc (.cells #[.string ⟨#[]⟩, .string ⟨#[]⟩] 78)).heap.size) := by rw [Hid, World.size_alloc]; have := HF3.out.size; omega
      have HOW3 := Lib.hid (owns_move HOW.out ((Fresh.refl w3).alloc (.cells #[.string ⟨#[]⟩, .string ⟨#[]⟩] 78)))
      go_wp2_with (at_builtin; refine Hid.out ?_)
      refine Lib.hid ?_
      refine wpList_append_lies _ rfl _ _ 27 rfl w2.heap.size 78 i0 _ 2 32 Try.underlying27 hi0 hz0 hz1 hz2 rfl (by decide) (.slice (some ⟨g1, 0, none⟩) fl.length cap1) fl.length (rfCells fl) rfl HOW3.out ⟨w3.heap.size, 0, none⟩ 1 1 [.string ⟨#[]⟩, .string ⟨#[]⟩] rfl rfl HNEW.out HE1.out (by decide) hm1 hm2 HLOW.out _ rfl ?_
      intro g2 cap2 w4 hown hgrow hat hlt
      have hf4 : Fresh w2 w4 := Below.grown (HF3.out.alloc (.cells #[.string ⟨#[]⟩, .string ⟨#[]⟩] 78)) hgrow (HF3.out.alloc (.cells #[.string ⟨#[]⟩, .string ⟨#[]⟩] 78)).size (fun k e => (World.ownsRow.lt HOW3.out k e).1)
      obtain ⟨fl', hfl'⟩ : ∃ l, l = fl ++ [((⟨#[]⟩, ⟨#[]⟩) : RFile)] := ⟨_, rfl⟩
      have hlen : fl.length + 1 = fl'.length := by rw [hfl', List.length_append]; rfl
      have hown' : w4.ownsRow w2.heap.size 78 2 (.slice (some ⟨g2, 0, none⟩) fl'.length cap2) fl'.length (rfCells fl') := by
        rw [← hlen, hfl', rf_snoc]; exact hown
      rw [hlen]
      have hr4 : RAt w4 ⟨fl', nl, sl, wl, left', st, false⟩ ⟨some ⟨g2, 0, none⟩, cap2, na, nc, sa, sc, wa, wc⟩ :=
        ⟨own_mono hown' (Nat.zero_le _), HAT.out.now.move hf4, HAT.out.safe.move hf4, owns_move HAT.out.wait hf4⟩
      have HB4 := Lib.hid (RBox.mk (hf4.at HBX.out.at_))
      have HAT5 := Lib.hid (hr4.box HB4.out.at_ (grown_set w4 w.heap.size 0 (.slice (some ⟨g2, 0, none⟩) fl'.length cap2)))
      have HB5 := Lib.hid (HB4.out.set0 (.slice (some ⟨g2, 0, none⟩) fl'.length cap2))
      have HZ5 : Hid (RBox (w4.setCell ⟨w.heap.size, 0, none⟩ (.slice (some ⟨g2, 0, none⟩) fl'.length cap2)) (w.heap.size + 1) _ _ _ _ _ _ _) := ⟨grown_keep (grown_set w4 w.heap.size 0 _) (hf4.at HZ.out.at_) (by simp)⟩
      have HFR5 := Lib.hid ((HFR.out.trans hf4).setCell (p := ⟨w.heap.size, 0, none⟩) (Nat.le_refl _) (.slice (some ⟨g2, 0, none⟩) fl'.length cap2))
      have HLEN := Lib.hid hlen
      have HFL' := Lib.hid hfl'
      clear s0 s1 s2 s3 s4 s5 s6 t0 t1 t2 t3 t4 t5 t6 p0 p1 p2 p3 p4 p5 p6 q0 q1 q2 q3 q4 q5 q6 hown hown' hgrow hat hlt hf4 hr4 hlen hfl' HOW HOW3 HNEW HLOW HF3
      obtain ⟨⟨p0, _⟩, ⟨q0, _⟩⟩ := HB4.out.cells
      go_upto_region 10 with (fail)
      generalize w4.setCell ⟨w.heap.size, 0, none⟩ (.slice (some ⟨g2, 0, none⟩) fl'.length cap2) = w5 at *
      clear p0 q0 HB4
      obtain ⟨⟨p0, p1, p2, p3, p4, p5, p6⟩, ⟨q0, q1, q2, q3, q4, q5, q6⟩⟩ := HB5.out.cells
      have hlm : (fl'.length : Int) - 1 = (fl.length : Int) := by have := HLEN.out; omega
      have hlb : fl.length ≤ 800000 := HFL.out
      have hlb2 : fl'.length ≤ 800001 := by have := HLEN.out; have := HFL.out; omega
      have HWAIT := Lib.hid (fun W (h : Fresh w5 W) => rwait_any ⟨fl', nl, sl, wl, left', st, false⟩ ⟨some ⟨g2, 0, none⟩, cap2, na, nc, sa, sc, wa, wc⟩ ⟨0, ⟨#[]⟩, name, (fl.length : Nat)⟩ W (.inl rfl) (by have := HNL.out; dsimp only; omega) (by have := HWL.out; dsimp only; omega) (HAT5.out.move h))
      dsimp only [rval, dval, RSt.waits] at HWAIT
      go_wp2_with fail
      refine (HWAIT.out _ (Fresh.refl _)).mono ?_
      rintro e w6 ⟨⟨fa6, fc6, na6, nc6, sa6, sc6, wa6, wc6⟩, rfl, hr6, hf6⟩
      dsimp only at hr6 ⊢
      have hnl' : onL nl ⟨0, ⟨#[]⟩, name, (fl.length : Nat)⟩ = withoutL nl name ++ [(name, (fl.length : Int))] := by rw [onL, if_pos rfl]
      have hatl : atL (onL nl ⟨0, ⟨#[]⟩, name, (fl.length : Nat)⟩) name = (fl.length : Int) := by rw [hnl', atL_add HNUM.out, if_pos rfl]
      have hnlen : (onL nl ⟨0, ⟨#[]⟩, name, (fl.length : Nat)⟩).length ≤ 900000 := by have := onL_len nl ⟨0, ⟨#[]⟩, name, (fl.length : Nat)⟩; have := HNL.out; omega
      generalize hnl : onL nl ⟨0, ⟨#[]⟩, name, (fl.length : Nat)⟩ = nl' at *
      generalize hwl : wl ++ [(⟨0, ⟨#[]⟩, name, (fl.length : Nat)⟩ : RDeed)] = wl' at *
      have HNEQ := Lib.hid (And.intro hnl hwl)
      have HATN := Lib.hid hatl
      have HNN := Lib.hid hnlen
      have HB6 := Lib.hid (RBox.mk (hf6.at HB5.out.at_))
      have HZ6 := Lib.hid (RBox.mk (hf6.at HZ5.out.at_))
      have HR6 := Lib.hid hr6
      have HF6 := Lib.hid (HFR5.out.trans hf6)
      clear p0 p1 p2 p3 p4 p5 p6 q0 q1 q2 q3 q4 q5 q6 hnl' hatl hnlen hnl hwl hr6 hf6
      obtain ⟨⟨p0, p1, p2, p3, p4, p5, p6⟩, ⟨q0, q1, q2, q3, q4, q5, q6⟩⟩ := HB6.out.cells
      go_upto_region 11 with (fail)
      obtain ⟨hbx, hgx⟩ := box_set HB6.out (.slice fa6 fl'.length fc6) (.slice na6 nl'.length nc6) (.slice sa6 sl.length sc6) (.slice wa6 wl'.length wc6) (.int .i64 left') (.int .i64 st) (.bool false)
      clear p0 p1 p2 p3 p4 p5 p6 q0 q1 q2 q3 q4 q5 q6
      generalize (((((((w6.setCell ⟨w.heap.size, 0, none⟩ (.slice fa6 fl'.length fc6)).setCell ⟨w.heap.size, 1, none⟩ (.slice na6 nl'.length nc6)).setCell ⟨w.heap.size, 2, none⟩ (.slice sa6 sl.length sc6)).setCell ⟨w.heap.size, 3, none⟩ (.slice wa6 wl'.length wc6)).setCell ⟨w.heap.size, 4, none⟩ (.int .i64 left')).setCell ⟨w.heap.size, 5, none⟩ (.int .i64 st)).setCell ⟨w.heap.size, 6, none⟩ (.bool false)) = w7 at hbx hgx ⊢
      have HZ7 : Hid (RBox w7 (w.heap.size + 1) _ _ _ _ _ _ _) := ⟨grown_keep hgx HZ6.out.at_ (by simp)⟩
      have HFR7 : Hid (Fresh w w7) := Below.grown HF6.out hgx HF6.out.size (fun k e => by cases e; exact Nat.le_refl _)
      have HAT7 : Hid (RAt w7 ⟨fl', nl', sl, wl', left', st, false⟩ ⟨fa6, fc6, na6, nc6, sa6, sc6, wa6, wc6⟩) := HR6.out.box HB6.out.at_ hgx
      have HBX7 := Lib.hid hbx
      clear hbx hgx HR6 HF6 HB6 HZ6 HB5 HZ5 HFR5 HAT5
      obtain ⟨⟨p0, p1, p2, p3, p4, p5, p6⟩, ⟨q0, q1, q2, q3, q4, q5, q6⟩⟩ := HBX7.out.cells
      obtain ⟨⟨s0, s1, s2, s3, s4, s5, s6⟩, ⟨t0, t1, t2, t3, t4, t5, t6⟩⟩ := HZ7.out.cells
      have HATL7 := Lib.hid (fun W (h : Fresh w7 W) => at_any (w := W) (.slice na6 nl'.length nc6) nl' name (by have := HNN.out; omega) (HAT7.out.now.move h))
      rw [HATN.out] at HATL7
      have hil : fl.length < fl'.length := by have := HLEN.out; omega
      have h0i : (0 : Int) ≤ (fl.length : Int) := by omega
      obtain ⟨g, cap, hfe, _, hglt⟩ := HAT7.out.files.form (by dsimp only; omega)
      injection hfe with e1 e2 e3
      subst e1 e3
      obtain ⟨⟨x1, x2⟩, hxe⟩ : ∃ x, fl'[fl.length]? = some x := ⟨_, List.getElem?_eq_getElem hil⟩
      have hg0 : w7.cell? ⟨g, fl.length * 2 + 1, none⟩ = some (.string x2) := (HAT7.out.files.cellAt (fl.length * 2 + 1) (by dsimp only; omega)).trans (rf_get fl' fl.length _ hxe).2
      have HSET := Lib.hid (fun W (h : Fresh w7 W) => rset_any ⟨fl', nl', sl, wl', left', st, false⟩ ⟨some ⟨g, 0, none⟩, fc6, na6, nc6, sa6, sc6, wa6, wc6⟩ fl.length (data, x2) W hil (by have := HFL.out; dsimp only; have := HLEN.out; omega) (HAT7.out.move h))
      dsimp only [rval, RSt.setF] at HSET
      have hne1 : ¬ g = w.heap.size + 1 := own_ne HAT7.out.files HZ7.out.at_ (by decide)
      have hne2 : ¬ w.heap.size + 1 = g := fun e => hne1 e.symm
      have hne3 : ¬ g = w.heap.size := own_ne HAT7.out.files HBX7.out.at_ (by decide)
      have HG : Hid (∀ W, Fresh w7.drew W → W.cell? ⟨g, fl.length * 2 + 1, none⟩ = some (.string x2)) := fun W h => by
        rw [World.cell?_of_block (a := ⟨g, fl.length * 2 + 1, none⟩) (h.block g hglt)]; exact hg0
      clear e2 hxe hglt
      go_wp2_with fail
      refine (HATL7.out _ (Fresh.refl _)).mono ?_
      rintro e w' ⟨rfl, rfl⟩
      go_wp2
      go_region_held3 (fun w' => (w'.cell? ⟨w.heap.size, 0, none⟩ = some (.slice (some ⟨g, 0, none⟩) fl'.length fc6) ∧ w'.cell? ⟨w.heap.size, 1, none⟩ = some (.slice na6 nl'.length nc6) ∧ w'.cell? ⟨w.heap.size, 2, none⟩ = some (.slice sa6 sl.length sc6) ∧ w'.cell? ⟨w.heap.size, 3, none⟩ = some (.slice wa6 wl'.length wc6) ∧ w'.cell? ⟨w.heap.size, 4, none⟩ = some (.int .i64 left') ∧ w'.cell? ⟨w.heap.size, 5, none⟩ = some (.int .i64 st) ∧ w'.cell? ⟨w.heap.size, 6, none⟩ = some (.bool false) ∧ w'.cell? ⟨g, fl.length * 2 + 1, none⟩ = some (.string x2))) (go_keep)
        (first
          | (go_at_call 39; (with_reducible refine (HSET.out _ (Fresh.refl _).drew).mono ?_); rintro e w3 ⟨⟨fa', fc', na', nc', sa', sc', wa', wc'⟩, rfl, hr3, hf3⟩; have HR3 := Lib.hid hr3; have HZ3 := Lib.hid (RBox.mk (hf3.at (show w7.drew.heap[w.heap.size + 1]? = _ from HZ7.out.at_))); have HF3 := Lib.hid (HFR7.out.trans ((Fresh.refl w7).drew.trans hf3)); have HB3 := Lib.hid (RBox.mk (hf3.at (show w7.drew.heap[w.heap.size]? = _ from HBX7.out.at_))); obtain ⟨⟨a0, a1, a2, a3, a4, a5, a6⟩, _⟩ := HB3.out.cells; obtain ⟨⟨b0, b1, b2, b3, b4, b5, b6⟩, ⟨c0, c1, c2, c3, c4, c5, c6⟩⟩ := HZ3.out.cells; have ag := HG.out _ hf3; clear hr3 hf3))
      go_wp2
      refine bodyPost_ret (v := .tuple #[.agg #[.slice fa' (fl'.set fl.length (data, x2)).length fc', .slice na' nl'.length nc', .slice sa' sl.length sc', .slice wa' wl'.length wc', .int .i64 left', .int .i64 st, .bool false], .int .i64 0]) (by simp [results, Try.results19, go_sem, *]) rfl ⟨⟨fl'.set fl.length (data, x2), nl', sl, wl', left', st, false⟩, 0, ⟨⟨fa', fc', na', nc', sa', sc', wa', wc'⟩, rfl, HR3.out.box HZ3.out.at_ (box_set HZ3.out _ _ _ _ _ _ _).2, ?_⟩, ?_⟩
      · repeat (refine Fresh.setCell ?_ (by simp) _)
        exact HF3.out
      · obtain ⟨e1, e2⟩ := HNEQ.out
        have e3 := HFL'.out
        subst e1 e2 e3
        exact .inr (.inr ⟨HNM.out, HX.out, rfl, fl.length, (data, x2), rfl⟩)
    · have HX : Hid (0 ≤ atL nl name) := by rw [Hid]; omega
      have hlt : atL nl name < fl.length := by
        rcases HNUM.out.at name with h | h
        · exact absurd (by omega : atL nl name < 0) hx
        · exact h.2
      obtain ⟨i, hi⟩ : ∃ i : Nat, atL nl name = (i : Int) := ⟨(atL nl name).toNat, by omega⟩
      rw [hi] at HATL hlt
      clear hi hx
      have hil : i < fl.length := by omega
      have h0i : (0 : Int) ≤ (i : Int) := by omega
      obtain ⟨g, cap, hfe, _, hglt⟩ := HAT.out.files.form (by dsimp only; omega)
      injection hfe with e1 e2 e3
      subst e1 e3
      obtain ⟨⟨x1, x2⟩, hxe⟩ : ∃ x, fl[i]? = some x := ⟨_, List.getElem?_eq_getElem hil⟩
      have hg0 : w2.cell? ⟨g, i * 2 + 1, none⟩ = some (.string x2) := (HAT.out.files.cellAt (i * 2 + 1) (by dsimp only; omega)).trans (rf_get fl i _ hxe).2
      have HSET := Lib.hid (fun W (h : Fresh w2 W) => rset_any ⟨fl, nl, sl, wl, left', st, false⟩ ⟨some ⟨g, 0, none⟩, fc, na, nc, sa, sc, wa, wc⟩ i (data, x2) W hil (by have := HFL.out; dsimp only; omega) (HAT.out.move h))
      dsimp only [rval, RSt.setF] at HSET
      have hne1 : ¬ g = w.heap.size + 1 := own_ne HAT.out.files HZ.out.at_ (by decide)
      have hne2 : ¬ w.heap.size + 1 = g := fun e => hne1 e.symm
      have hne3 : ¬ g = w.heap.size := own_ne HAT.out.files HBX.out.at_ (by decide)
      have HG : Hid (∀ W, Fresh w2.drew W → W.cell? ⟨g, i * 2 + 1, none⟩ = some (.string x2)) := fun W h => by
        rw [World.cell?_of_block (a := ⟨g, i * 2 + 1, none⟩) (h.block g hglt)]; exact hg0
      clear e2 hxe hglt
      go_wp2_with fail
      refine (HNAME.out _).mono ?_
      rintro e w' ⟨rfl, rfl⟩
      go_wp2_with fail
      refine (HATL.out _ (Fresh.refl _)).mono ?_
      rintro e w' ⟨rfl, rfl⟩
      go_wp2_with fail
      refine (HATL.out _ (Fresh.refl _)).mono ?_
      rintro e w' ⟨rfl, rfl⟩
      go_wp2
      go_region_held3 (fun w' => (w'.cell? ⟨w.heap.size, 0, none⟩ = some (.slice (some ⟨g, 0, none⟩) fl.length fc) ∧ w'.cell? ⟨w.heap.size, 1, none⟩ = some (.slice na nl.length nc) ∧ w'.cell? ⟨w.heap.size, 2, none⟩ = some (.slice sa sl.length sc) ∧ w'.cell? ⟨w.heap.size, 3, none⟩ = some (.slice wa wl.length wc) ∧ w'.cell? ⟨w.heap.size, 4, none⟩ = some (.int .i64 left') ∧ w'.cell? ⟨w.heap.size, 5, none⟩ = some (.int .i64 st) ∧ w'.cell? ⟨w.heap.size, 6, none⟩ = some (.bool false) ∧ w'.cell? ⟨g, i * 2 + 1, none⟩ = some (.string x2))) (go_keep)
        (first
          | (go_at_call 39; (with_reducible refine (HSET.out _ (Fresh.refl _).drew).mono ?_); rintro e w3 ⟨⟨fa', fc', na', nc', sa', sc', wa', wc'⟩, rfl, hr3, hf3⟩; have HR3 := Lib.hid hr3; have HZ3 := Lib.hid (RBox.mk (hf3.at (show w2.drew.heap[w.heap.size + 1]? = _ from HZ.out.at_))); have HF3 := Lib.hid (HFR.out.trans ((Fresh.refl w2).drew.trans hf3)); have HB3 := Lib.hid (RBox.mk (hf3.at (show w2.drew.heap[w.heap.size]? = _ from HBX.out.at_))); obtain ⟨⟨a0, a1, a2, a3, a4, a5, a6⟩, _⟩ := HB3.out.cells; obtain ⟨⟨b0, b1, b2, b3, b4, b5, b6⟩, ⟨c0, c1, c2, c3, c4, c5, c6⟩⟩ := HZ3.out.cells; have ag := HG.out _ hf3; clear hr3 hf3))
      go_wp2
      refine bodyPost_ret (v := .tuple #[.agg #[.slice fa' (fl.set i (data, x2)).length fc', .slice na' nl.length nc', .slice sa' sl.length sc', .slice wa' wl.length wc', .int .i64 left', .int .i64 st, .bool false], .int .i64 0]) (by simp [results, Try.results19, go_sem, *]) rfl ⟨⟨fl.set i (data, x2), nl, sl, wl, left', st, false⟩, 0, ⟨⟨fa', fc', na', nc', sa', sc', wa', wc'⟩, rfl, HR3.out.box HZ3.out.at_ (box_set HZ3.out _ _ _ _ _ _ _).2, ?_⟩, ?_⟩
      · repeat (refine Fresh.setCell ?_ (by simp) _)
        exact HF3.out
      · exact .inr (.inl ⟨HNM.out, HX.out, rfl, i, (data, x2), rfl⟩)
end Go.Proofs.Ytimcoofmemcojaa
