/-
  The document's answer for layer 4: Crash.
-/
import Derived.Test.YtimcoofmemcojaaRefE
import Derived.Test.YtimcoofmemcojaaRefF
namespace Go.Proofs.Ytimcoofmemcojaa
open Go.ChangeShapes Go.WideShapes Go.ChangeAt Go.RowKit
variable {w : World}
/-- A row of whole numbers that came in. -/
def CutsIs (w : World) (v : Value) (n : Nat) : Prop := n ≤ 1000000 ∧ ∃ a c, v = .slice a n c ∧ (n = 0 ∨ ∃ (gc off : Nat) (z : Nat → Int), a = some ⟨gc, off, none⟩ ∧ ∀ i, i < n → w.cell? ⟨gc, off + i, none⟩ = some (.int .i64 (z i)) ∧ z i ≤ 9223372036854775807)
theorem box_set4 {w1 : World} {b : Nat} {c0 c1 c2 c3 c4 c5 c6 : Value} (h : RBox w1 b c0 c1 c2 c3 c4 c5 c6) (d1 d3 d4 d6 : Value) :
    RBox ((((w1.setCell ⟨b, 1, none⟩ d1).setCell ⟨b, 3, none⟩ d3).setCell ⟨b, 6, none⟩ d6).setCell ⟨b, 4, none⟩ d4) b c0 d1 c2 d3 d4 c5 d6 ∧
    w1.grownBy ((((w1.setCell ⟨b, 1, none⟩ d1).setCell ⟨b, 3, none⟩ d3).setCell ⟨b, 6, none⟩ d6).setCell ⟨b, 4, none⟩ d4) (some b) := by
  refine ⟨⟨?_⟩, ?_⟩
  · simp [World.setCell, Array.getElem?_modify, h.at_]
  · exact grownBy_trans (grownBy_trans (grownBy_trans (grown_set _ b 1 d1) (grown_set _ b 3 d3)) (grown_set _ b 6 d6)) (grown_set _ b 4 d4)
theorem RBox.set2 {W : World} {b : Nat} {c0 c1 c2 c3 c4 c5 c6 : Value} (h : RBox W b c0 c1 c2 c3 c4 c5 c6) (v : Value) : RBox (W.setCell ⟨b, 2, none⟩ v) b c0 c1 v c3 c4 c5 c6 := by
  refine ⟨?_⟩
  simp [World.setCell, Array.getElem?_modify, h.at_]
theorem RFar.low {w : World} {r : RSt} {R : RLay} (h : RAt w r R) : RFar r R w.heap.size :=
  ⟨fun k e => .inl (World.ownsRow.lt h.files k e).2, fun k e => .inl (World.ownsRow.lt h.now k e).2, fun k e => .inl (World.ownsRow.lt h.safe k e).2, fun k e => .inl (World.ownsRow.lt h.wait k e).2⟩
def RSt.crash (r : RSt) (fl : List RFile) (n : Nat) : RSt := ⟨fl, onAllL r.safe (r.wait.take n), onAllL r.safe (r.wait.take n), [], -1, r.steps, false⟩
def CrashIs (w : World) (r : RSt) (n : Nat) (e : Ending) (w' : World) : Prop := ∃ (fl : List RFile) (R' : RLay), fl.length = r.files.length ∧ e = .returned (rval (r.crash fl n) R') ∧ RAt w' (r.crash fl n) R' ∧ Fresh w w'
set_option maxRecDepth 100000 in
set_option maxHeartbeats 8000000 in
theorem rcrash_any (r : RSt) (R : RLay) (keep : Int) (cv : Value) (cn : Nat) (n : Nat) (w : World) (hfl : r.files.length ≤ 800000) (hn : r.now.length ≤ 800000) (hs : r.safe.length + r.wait.length ≤ 800000) (hk : -9223372036854775808 ≤ keep ∧ keep ≤ 9223372036854775807) (hmin : min (max keep 0) (r.wait.length : Int) = n) (hd : ∀ d ∈ r.wait, d.Is) (hat : RAt w r R) (hcv : CutsIs w cv cn) :
    Calls Try.prog 27 #[rval r R, .int .i64 keep, cv] w (CrashIs w r n) := by
  have HFL := Lib.hid hfl
  have HNL := Lib.hid hn
  have HSW := Lib.hid hs
  have HK := Lib.hid hk
  have HMIN := Lib.hid hmin
  have HD := Lib.hid hd
  obtain ⟨fl, nl, sl, wl, left, steps, down⟩ := r
  obtain ⟨fa, fc, na, nc, sa, sc, wa, wc⟩ := R
  obtain ⟨hcn, ca, cc, rfl, hcuts⟩ := hcv
  dsimp only [rval] at *
  have hf := ((Fresh.refl w).alloc (.cells #[.slice fa fl.length fc, .slice na nl.length nc, .slice sa sl.length sc, .slice wa wl.length wc, .int .i64 left, .int .i64 steps, .bool down] 31)).alloc (.cells #[.slice none 0 0, .slice none 0 0, .slice none 0 0, .slice none 0 0, .int .i64 0, .int .i64 0, .bool false] 31)
  have HAT := Lib.hid (hat.move hf)
  have hbx : RBox ((w.alloc (.cells #[.slice fa fl.length fc, .slice na nl.length nc, .slice sa sl.length sc, .slice wa wl.length wc, .int .i64 left, .int .i64 steps, .bool down] 31)).alloc (.cells #[.slice none 0 0, .slice none 0 0, .slice none 0 0, .slice none 0 0, .int .i64 0, .int .i64 0, .bool false] 31)) w.heap.size _ _ _ _ _ _ _ := ⟨at_alloc (at_new w _)⟩
  have hbz : RBox ((w.alloc (.cells #[.slice fa fl.length fc, .slice na nl.length nc, .slice sa sl.length sc, .slice wa wl.length wc, .int .i64 left, .int .i64 steps, .bool down] 31)).alloc (.cells #[.slice none 0 0, .slice none 0 0, .slice none 0 0, .slice none 0 0, .int .i64 0, .int .i64 0, .bool false] 31)) (w.heap.size + 1) _ _ _ _ _ _ _ := ⟨by have := at_new (w.alloc (.cells #[.slice fa fl.length fc, .slice na nl.length nc, .slice sa sl.length sc, .slice wa wl.length wc, .int .i64 left, .int .i64 steps, .bool down] 31)) (.cells #[.slice none 0 0, .slice none 0 0, .slice none 0 0, .slice none 0 0, .int .i64 0, .int .i64 0, .bool false] 31); rw [World.size_alloc] at this; exact this⟩
  have HBX := Lib.hid hbx
  have HBZ := Lib.hid hbz
  have HF := Lib.hid hf
  have HCUTS := Lib.hid hcuts
  clear hat hn hs hk hmin hd hf hbx hbz hfl hcuts
  go_enter Try.func27, Try.ntmps27
  go_upto_region 1 with (fail)
  generalize (w.alloc (.cells #[.slice fa fl.length fc, .slice na nl.length nc, .slice sa sl.length sc, .slice wa wl.length wc, .int .i64 left, .int .i64 steps, .bool down] 31)).alloc (.cells #[.slice none 0 0, .slice none 0 0, .slice none 0 0, .slice none 0 0, .int .i64 0, .int .i64 0, .bool false] 31) = w1 at *
  go_wp2
  go_loopw [7, 8] (fun a7 a8 wr => ∃ (m i : Nat) (fl' : List RFile) (R' : RLay), i ≤ fl.length ∧ m ≤ i ∧ a7 = .int .i64 (m : Int) ∧ a8 = .int .i64 (i : Int) ∧ Hid (fl'.length = fl.length) ∧ Hid (RBox wr w.heap.size (.slice R'.fa fl'.length R'.fc) (.slice R'.na nl.length R'.nc) (.slice R'.sa sl.length R'.sc) (.slice R'.wa wl.length R'.wc) (.int .i64 left) (.int .i64 steps) (.bool down)) ∧ Hid (RAt wr ⟨fl', nl, sl, wl, left, steps, down⟩ R') ∧ Hid (RBox wr (w.heap.size + 1) (.slice none 0 0) (.slice none 0 0) (.slice none 0 0) (.slice none 0 0) (.int .i64 0) (.int .i64 0) (.bool false)) ∧ Hid (Fresh w wr)) (fun _ a8 _ => fl.length - (intOf a8).toNat)
  case atStart => exact ⟨0, 0, fl, ⟨fa, fc, na, nc, sa, sc, wa, wc⟩, Nat.zero_le _, Nat.le_refl _, rfl, rfl, rfl, HBX.out, HAT.out, HBZ.out, HF.out⟩
  case round =>
    obtain ⟨m, i, fl', ⟨fa1, fc1, na1, nc1, sa1, sc1, wa1, wc1⟩, hi, hm, rfl, rfl, HL, HB, HA, HZ, HFr⟩ := hrel
    dsimp only at HB HA
    obtain ⟨⟨p0, p1, p2, p3, p4, p5, p6⟩, ⟨q0, q1, q2, q3, q4, q5, q6⟩⟩ := HB.out.cells
    have hib : i ≤ 800000 := Nat.le_trans hi HFL.out
    have hmb : m ≤ 800000 := Nat.le_trans hm hib
    by_cases hlt : i < fl'.length
    · have HIL := Lib.hid hlt
      obtain ⟨g, cap, hfe, _, hglt⟩ := World.ownsRow.form HA.out.files (by dsimp only; omega)
      injection hfe with e1 e2 e3
      subst e1 e3
      obtain ⟨⟨x1, x2⟩, hxe⟩ : ∃ x, fl'[i]? = some x := ⟨_, List.getElem?_eq_getElem hlt⟩
      have g0 : wr.cell? ⟨g, i * 2, none⟩ = some (.string x1) := (World.ownsRow.cellAt HA.out.files (i * 2) (by dsimp only; omega)).trans (rf_get fl' i _ hxe).1
      have g1 : wr.cell? ⟨g, i * 2 + 1, none⟩ = some (.string x2) := (World.ownsRow.cellAt HA.out.files (i * 2 + 1) (by dsimp only; omega)).trans (rf_get fl' i _ hxe).2
      have HNAMED := Lib.hid (fun W (h : Fresh wr W) => rnamed_any ⟨fl', nl, sl, wl, left, steps, down⟩ ⟨(some ⟨g, 0, none⟩), fc1, na1, nc1, sa1, sc1, wa1, wc1⟩ (i : Int) W (by have := HNL.out; dsimp only; omega) (by have := HSW.out; dsimp only; omega) (by have := HSW.out; dsimp only; omega) (HA.out.move h))
      dsimp only [rval] at HNAMED
      have fX := (Fresh.refl wr).alloc (.cells #[.string x1, .string x2] 78)
      obtain ⟨⟨a0, a1, a2, a3, a4, a5, a6⟩, _⟩ := (RBox.mk (fX.at HB.out.at_)).cells
      have HFX := Lib.hid fX
      have HXB := Lib.hid (at_new wr (.cells #[.string x1, .string x2] 78))
      have hli : fl'.length ≤ 800000 := by have := HL.out; have := HFL.out; omega
      clear hxe e2 fX hglt
      go_wp2_with fail
      refine (HNAMED.out _ HFX.out).mono ?_
      rintro e w2 ⟨b, rfl, hf2⟩
      have HB2 := Lib.hid (RBox.mk (hf2.at (HFX.out.at HB.out.at_)))
      have HZ2 := Lib.hid (RBox.mk (hf2.at (HFX.out.at HZ.out.at_)))
      have HA2 := Lib.hid (HA.out.move (HFX.out.trans hf2))
      have HX2 := Lib.hid (hf2.at HXB.out)
      have HF2 := Lib.hid (HFr.out.trans (HFX.out.trans hf2))
      have HFAR := Lib.hid (RFar.low HA.out)
      have HXlow : Hid (w.heap.size + 1 < wr.heap.size) := lt_of_at HZ.out.at_
      clear p0 p1 p2 p3 p4 p5 p6 q0 q1 q2 q3 q4 q5 q6 a0 a1 a2 a3 a4 a5 a6 g0 g1 hf2 HXB HFX HNAMED HB HZ HA HFr
      generalize wr.heap.size = X at *
      obtain ⟨⟨p0, p1, p2, p3, p4, p5, p6⟩, ⟨q0, q1, q2, q3, q4, q5, q6⟩⟩ := HB2.out.cells
      have y0 := cell_of_at HX2.out (i := 0) rfl
      have y1 := cell_of_at HX2.out (i := 1) rfl
      have z0 : w2.frozen? ⟨X, 0, none⟩ = false := by simp [World.frozen?, HX2.out]
      have z1 : w2.frozen? ⟨X, 1, none⟩ = false := by simp [World.frozen?, HX2.out]
      cases b with
      | false =>
        go_wp2
        go_roundw
        case rel => exact ⟨m, i + 1, fl', ⟨(some ⟨g, 0, none⟩), fc1, na1, nc1, sa1, sc1, wa1, wc1⟩, by have := HIL.out; have := HL.out; omega, by omega, rfl, by go_num, HL.out, HB2.out, HA2.out, HZ2.out, HF2.out⟩
        case measure => simp [intOf]; have := HIL.out; have := HL.out; omega
      | true =>
        by_cases hxx : x1 = x2
        · subst hxx
          have hb1 : (x1.toList == x1.toList) = true := by simp
          go_wp2
          go_roundw
          case rel => exact ⟨m, i + 1, fl', ⟨(some ⟨g, 0, none⟩), fc1, na1, nc1, sa1, sc1, wa1, wc1⟩, by have := HIL.out; have := HL.out; omega, by omega, rfl, by go_num, HL.out, HB2.out, HA2.out, HZ2.out, HF2.out⟩
          case measure => simp [intOf]; have := HIL.out; have := HL.out; omega
        · have hb1 : (x1.toList == x2.toList) = false := by rw [toList_beq, decide_eq_false hxx]
          clear hxx
          by_cases hmc : m < cn
          · rcases HCUTS.out with h0 | ⟨gc, off, z, rfl, hz⟩
            · omega
            obtain ⟨hzc, hzb⟩ := hz m hmc
            have hzc2 : w2.cell? ⟨gc, off + m, none⟩ = some (.int .i64 (z m)) := Below.cell HF2.out (p := ⟨gc, off + m, none⟩) (Classical.byContradiction fun hge => by simp [World.cell?, Array.getElem?_eq_none (Nat.le_of_not_lt hge)] at hzc) |>.trans hzc
            clear hz hzc
            generalize z m = zm at *
            by_cases hz0 : 0 ≤ zm
            · by_cases hbig : (x1.size : Int) < zm
              · have hz1 : 0 ≤ zm := hz0
                go_upto_region 12 with (fail)
                clear p0 p1 p2 p3 p4 p5 p6 q0 q1 q2 q3 q4 q5 q6 y0 y1 z0 z1 hzc2
                have hgs := grown_set w2 X 1 (.string x1)
                have HX3 : Hid ((w2.setCell ⟨X, 1, none⟩ (.string x1)).heap[X]? = some (.cells #[.string x1, .string x1] 78 (0, 0))) := by
                  rw [Hid]; simp [World.setCell, Array.getElem?_modify, HX2.out]
                have HB3 : Hid (RBox (w2.setCell ⟨X, 1, none⟩ (.string x1)) w.heap.size _ _ _ _ _ _ _) := ⟨grown_keep hgs HB2.out.at_ (by have := HXlow.out; simp; omega)⟩
                have HZ3 : Hid (RBox (w2.setCell ⟨X, 1, none⟩ (.string x1)) (w.heap.size + 1) _ _ _ _ _ _ _) := ⟨grown_keep hgs HZ2.out.at_ (by have := HXlow.out; simp; omega)⟩
                have HA3 := Lib.hid (HA2.out.set HFAR.out hgs (by omega))
                have HF3 := Lib.hid (HF2.out.setCell (p := ⟨X, 1, none⟩) (show w.heap.size ≤ X by have := HXlow.out; omega) (.string x1))
                clear hgs HX2 HB2 HZ2 HA2 HF2
                generalize w2.setCell ⟨X, 1, none⟩ (.string x1) = W3 at *
                obtain ⟨⟨p0, p1, p2, p3, p4, p5, p6⟩, ⟨q0, q1, q2, q3, q4, q5, q6⟩⟩ := HB3.out.cells
                have x1c : W3.cell? ⟨X, 1, none⟩ = some (.string x1) := cell_of_at HX3.out (i := 1) rfl
                have hil : i < fl'.length := HIL.out
                have HSET := Lib.hid (rset_any ⟨fl', nl, sl, wl, left, steps, down⟩ ⟨(some ⟨g, 0, none⟩), fc1, na1, nc1, sa1, sc1, wa1, wc1⟩ i (x1, x1) W3 hil (by have := HFL.out; have := HL.out; dsimp only; omega) HA3.out)
                dsimp only [rval, RSt.setF] at HSET
                clear hil
                go_wp2_with fail
                refine HSET.out.mono ?_
                rintro e w6 ⟨⟨fa6, fc6, na6, nc6, sa6, sc6, wa6, wc6⟩, rfl, hr6, hf6⟩
                dsimp only at hr6 ⊢
                have HB6 := Lib.hid (RBox.mk (hf6.at HB3.out.at_))
                have HZ6 := Lib.hid (RBox.mk (hf6.at HZ3.out.at_))
                have HR6 := Lib.hid hr6
                have HF6 := Lib.hid (HF3.out.trans hf6)
                clear p0 p1 p2 p3 p4 p5 p6 q0 q1 q2 q3 q4 q5 q6 x1c hr6 hf6
                obtain ⟨⟨p0, p1, p2, p3, p4, p5, p6⟩, ⟨q0, q1, q2, q3, q4, q5, q6⟩⟩ := HB6.out.cells
                go_wp2
                go_roundw
                case rel => exact ⟨m + 1, i + 1, fl'.set i (x1, x1), ⟨fa6, fc6, na6, nc6, sa6, sc6, wa6, wc6⟩, by have := HIL.out; have := HL.out; omega, by omega, by go_num, by go_num, by rw [Hid, List.length_set]; exact HL.out, by rw [Hid, List.length_set]; exact (box_set HB6.out _ _ _ _ _ _ _).1, HR6.out.box HB6.out.at_ (box_set HB6.out _ _ _ _ _ _ _).2, ⟨grown_keep (box_set HB6.out _ _ _ _ _ _ _).2 HZ6.out.at_ (by simp)⟩, Below.grown HF6.out (box_set HB6.out _ _ _ _ _ _ _).2 HF6.out.size (fun k e => by cases e; exact Nat.le_refl _)⟩
                case measure => simp [intOf]; have := HIL.out; have := HL.out; omega
              · obtain ⟨zn, rfl⟩ : ∃ zn : Nat, zm = (zn : Int) := ⟨zm.toNat, by omega⟩
                have hzn : zn ≤ x1.size := by omega
                go_upto_region 12 with (fail)
                clear p0 p1 p2 p3 p4 p5 p6 q0 q1 q2 q3 q4 q5 q6 y0 y1 z0 z1 hzc2
                obtain ⟨s, hs⟩ : ∃ s, s = x1.extract 0 zn := ⟨_, rfl⟩
                rw [← hs]
                clear hs
                have hgs := grown_set w2 X 1 (.string s)
                have HX3 : Hid ((w2.setCell ⟨X, 1, none⟩ (.string s)).heap[X]? = some (.cells #[.string x1, .string s] 78 (0, 0))) := by
                  rw [Hid]; simp [World.setCell, Array.getElem?_modify, HX2.out]
                have HB3 : Hid (RBox (w2.setCell ⟨X, 1, none⟩ (.string s)) w.heap.size _ _ _ _ _ _ _) := ⟨grown_keep hgs HB2.out.at_ (by have := HXlow.out; simp; omega)⟩
                have HZ3 : Hid (RBox (w2.setCell ⟨X, 1, none⟩ (.string s)) (w.heap.size + 1) _ _ _ _ _ _ _) := ⟨grown_keep hgs HZ2.out.at_ (by have := HXlow.out; simp; omega)⟩
                have HA3 := Lib.hid (HA2.out.set HFAR.out hgs (by omega))
                have HF3 := Lib.hid (HF2.out.setCell (p := ⟨X, 1, none⟩) (show w.heap.size ≤ X by have := HXlow.out; omega) (.string s))
                clear hgs HX2 HB2 HZ2 HA2 HF2
                generalize w2.setCell ⟨X, 1, none⟩ (.string s) = W3 at *
                obtain ⟨⟨p0, p1, p2, p3, p4, p5, p6⟩, ⟨q0, q1, q2, q3, q4, q5, q6⟩⟩ := HB3.out.cells
                have x1c : W3.cell? ⟨X, 1, none⟩ = some (.string s) := cell_of_at HX3.out (i := 1) rfl
                have hil : i < fl'.length := HIL.out
                have HSET := Lib.hid (rset_any ⟨fl', nl, sl, wl, left, steps, down⟩ ⟨(some ⟨g, 0, none⟩), fc1, na1, nc1, sa1, sc1, wa1, wc1⟩ i (s, s) W3 hil (by have := HFL.out; have := HL.out; dsimp only; omega) HA3.out)
                dsimp only [rval, RSt.setF] at HSET
                clear hil
                go_wp2_with fail
                refine HSET.out.mono ?_
                rintro e w6 ⟨⟨fa6, fc6, na6, nc6, sa6, sc6, wa6, wc6⟩, rfl, hr6, hf6⟩
                dsimp only at hr6 ⊢
                have HB6 := Lib.hid (RBox.mk (hf6.at HB3.out.at_))
                have HZ6 := Lib.hid (RBox.mk (hf6.at HZ3.out.at_))
                have HR6 := Lib.hid hr6
                have HF6 := Lib.hid (HF3.out.trans hf6)
                clear p0 p1 p2 p3 p4 p5 p6 q0 q1 q2 q3 q4 q5 q6 x1c hr6 hf6
                obtain ⟨⟨p0, p1, p2, p3, p4, p5, p6⟩, ⟨q0, q1, q2, q3, q4, q5, q6⟩⟩ := HB6.out.cells
                go_wp2
                go_roundw
                case rel => exact ⟨m + 1, i + 1, fl'.set i (s, s), ⟨fa6, fc6, na6, nc6, sa6, sc6, wa6, wc6⟩, by have := HIL.out; have := HL.out; omega, by omega, by go_num, by go_num, by rw [Hid, List.length_set]; exact HL.out, by rw [Hid, List.length_set]; exact (box_set HB6.out _ _ _ _ _ _ _).1, HR6.out.box HB6.out.at_ (box_set HB6.out _ _ _ _ _ _ _).2, ⟨grown_keep (box_set HB6.out _ _ _ _ _ _ _).2 HZ6.out.at_ (by simp)⟩, Below.grown HF6.out (box_set HB6.out _ _ _ _ _ _ _).2 HF6.out.size (fun k e => by cases e; exact Nat.le_refl _)⟩
                case measure => simp [intOf]; have := HIL.out; have := HL.out; omega
            · have hz1 : zm < 0 := by omega
              clear hz0
              go_upto_region 12 with (fail)
              clear p0 p1 p2 p3 p4 p5 p6 q0 q1 q2 q3 q4 q5 q6 y0 y1 z0 z1
              obtain ⟨s, hs⟩ : ∃ s, s = x2 := ⟨_, rfl⟩
              have HX3 : Hid (w2.heap[X]? = some (.cells #[.string x1, .string s] 78 (0, 0))) := by rw [hs]; exact HX2.out
              have HB3 := HB2
              have HZ3 := HZ2
              have HA3 := HA2
              have HF3 := HF2
              clear hs HX2 HB2 HZ2 HA2 HF2
              generalize w2 = W3 at *
              obtain ⟨⟨p0, p1, p2, p3, p4, p5, p6⟩, ⟨q0, q1, q2, q3, q4, q5, q6⟩⟩ := HB3.out.cells
              have x1c : W3.cell? ⟨X, 1, none⟩ = some (.string s) := cell_of_at HX3.out (i := 1) rfl
              have hil : i < fl'.length := HIL.out
              have HSET := Lib.hid (rset_any ⟨fl', nl, sl, wl, left, steps, down⟩ ⟨(some ⟨g, 0, none⟩), fc1, na1, nc1, sa1, sc1, wa1, wc1⟩ i (s, s) W3 hil (by have := HFL.out; have := HL.out; dsimp only; omega) HA3.out)
              dsimp only [rval, RSt.setF] at HSET
              clear hil
              go_wp2_with fail
              refine HSET.out.mono ?_
              rintro e w6 ⟨⟨fa6, fc6, na6, nc6, sa6, sc6, wa6, wc6⟩, rfl, hr6, hf6⟩
              dsimp only at hr6 ⊢
              have HB6 := Lib.hid (RBox.mk (hf6.at HB3.out.at_))
              have HZ6 := Lib.hid (RBox.mk (hf6.at HZ3.out.at_))
              have HR6 := Lib.hid hr6
              have HF6 := Lib.hid (HF3.out.trans hf6)
              clear p0 p1 p2 p3 p4 p5 p6 q0 q1 q2 q3 q4 q5 q6 x1c hr6 hf6
              obtain ⟨⟨p0, p1, p2, p3, p4, p5, p6⟩, ⟨q0, q1, q2, q3, q4, q5, q6⟩⟩ := HB6.out.cells
              go_wp2
              go_roundw
              case rel => exact ⟨m + 1, i + 1, fl'.set i (s, s), ⟨fa6, fc6, na6, nc6, sa6, sc6, wa6, wc6⟩, by have := HIL.out; have := HL.out; omega, by omega, by go_num, by go_num, by rw [Hid, List.length_set]; exact HL.out, by rw [Hid, List.length_set]; exact (box_set HB6.out _ _ _ _ _ _ _).1, HR6.out.box HB6.out.at_ (box_set HB6.out _ _ _ _ _ _ _).2, ⟨grown_keep (box_set HB6.out _ _ _ _ _ _ _).2 HZ6.out.at_ (by simp)⟩, Below.grown HF6.out (box_set HB6.out _ _ _ _ _ _ _).2 HF6.out.size (fun k e => by cases e; exact Nat.le_refl _)⟩
              case measure => simp [intOf]; have := HIL.out; have := HL.out; omega
          · have hmc2 : ¬ (m : Int) < (cn : Int) := by omega
            clear hmc
            go_upto_region 12 with (fail)
            clear p0 p1 p2 p3 p4 p5 p6 q0 q1 q2 q3 q4 q5 q6 y0 y1 z0 z1
            obtain ⟨s, hs⟩ : ∃ s, s = x2 := ⟨_, rfl⟩
            have HX3 : Hid (w2.heap[X]? = some (.cells #[.string x1, .string s] 78 (0, 0))) := by rw [hs]; exact HX2.out
            have HB3 := HB2
            have HZ3 := HZ2
            have HA3 := HA2
            have HF3 := HF2
            clear hs HX2 HB2 HZ2 HA2 HF2
            generalize w2 = W3 at *
            obtain ⟨⟨p0, p1, p2, p3, p4, p5, p6⟩, ⟨q0, q1, q2, q3, q4, q5, q6⟩⟩ := HB3.out.cells
            have x1c : W3.cell? ⟨X, 1, none⟩ = some (.string s) := cell_of_at HX3.out (i := 1) rfl
            have hil : i < fl'.length := HIL.out
            have HSET := Lib.hid (rset_any ⟨fl', nl, sl, wl, left, steps, down⟩ ⟨(some ⟨g, 0, none⟩), fc1, na1, nc1, sa1, sc1, wa1, wc1⟩ i (s, s) W3 hil (by have := HFL.out; have := HL.out; dsimp only; omega) HA3.out)
            dsimp only [rval, RSt.setF] at HSET
            clear hil
            go_wp2_with fail
            refine HSET.out.mono ?_
            rintro e w6 ⟨⟨fa6, fc6, na6, nc6, sa6, sc6, wa6, wc6⟩, rfl, hr6, hf6⟩
            dsimp only at hr6 ⊢
            have HB6 := Lib.hid (RBox.mk (hf6.at HB3.out.at_))
            have HZ6 := Lib.hid (RBox.mk (hf6.at HZ3.out.at_))
            have HR6 := Lib.hid hr6
            have HF6 := Lib.hid (HF3.out.trans hf6)
            clear p0 p1 p2 p3 p4 p5 p6 q0 q1 q2 q3 q4 q5 q6 x1c hr6 hf6
            obtain ⟨⟨p0, p1, p2, p3, p4, p5, p6⟩, ⟨q0, q1, q2, q3, q4, q5, q6⟩⟩ := HB6.out.cells
            go_wp2
            go_roundw
            case rel => exact ⟨m + 1, i + 1, fl'.set i (s, s), ⟨fa6, fc6, na6, nc6, sa6, sc6, wa6, wc6⟩, by have := HIL.out; have := HL.out; omega, by omega, by go_num, by go_num, by rw [Hid, List.length_set]; exact HL.out, by rw [Hid, List.length_set]; exact (box_set HB6.out _ _ _ _ _ _ _).1, HR6.out.box HB6.out.at_ (box_set HB6.out _ _ _ _ _ _ _).2, ⟨grown_keep (box_set HB6.out _ _ _ _ _ _ _).2 HZ6.out.at_ (by simp)⟩, Below.grown HF6.out (box_set HB6.out _ _ _ _ _ _ _).2 HF6.out.size (fun k e => by cases e; exact Nat.le_refl _)⟩
            case measure => simp [intOf]; have := HIL.out; have := HL.out; omega
    · have hii : ¬ (i : Int) < (fl'.length : Int) := by omega
      have HLL : Hid (fl'.length = fl.length) := HL.out
      clear hlt
      go_wp2
      clear hii hib hmb hi hm p0 p1 p2 p3 p4 p5 p6 q0 q1 q2 q3 q4 q5 q6
      go_loopw [11] (fun a11 wq => ∃ (j : Nat) (S : List Und) (sa2 : Option Addr) (sc2 : Nat), j ≤ wl.length ∧ (j : Int) ≤ max keep 0 ∧ a11 = .int .i64 (j : Int) ∧ Hid (S = onAllL sl (wl.take j)) ∧ Hid (RBox wq w.heap.size (.slice fa1 fl'.length fc1) (.slice na1 nl.length nc1) (.slice sa2 S.length sc2) (.slice wa1 wl.length wc1) (.int .i64 left) (.int .i64 steps) (.bool down)) ∧ Hid (RAt wq ⟨fl', nl, S, wl, left, steps, down⟩ ⟨fa1, fc1, na1, nc1, sa2, sc2, wa1, wc1⟩) ∧ Hid (RBox wq (w.heap.size + 1) (.slice none 0 0) (.slice none 0 0) (.slice none 0 0) (.slice none 0 0) (.int .i64 0) (.int .i64 0) (.bool false)) ∧ Hid (Fresh w wq)) (fun a11 _ => wl.length - (intOf a11).toNat)
      case atStart => exact ⟨0, sl, sa1, sc1, Nat.zero_le _, by omega, rfl, rfl, HB.out, HA.out, HZ.out, HFr.out⟩
      case round =>
        obtain ⟨j, S, sa2, sc2, hj, hjk, rfl, HS, HB5, HA5, HZ5, HF5⟩ := hrel
        obtain ⟨⟨p0, p1, p2, p3, p4, p5, p6⟩, ⟨q0, q1, q2, q3, q4, q5, q6⟩⟩ := HB5.out.cells
        have hjb : j ≤ 800000 := by have := HSW.out; omega
        by_cases hgo : j < wl.length ∧ (j : Int) < keep
        · obtain ⟨hlt, hkp⟩ := hgo
          have HIL := Lib.hid hlt
          have HJK : Hid ((j : Int) + 1 ≤ max keep 0) := by rw [Hid]; omega
          obtain ⟨g, cap, hfe, _, hglt⟩ := World.ownsRow.form HA5.out.wait (by dsimp only; omega)
          injection hfe with e1 e2 e3
          subst e1 e3
          have hget := rd_get wl j wl[j] (List.getElem?_eq_getElem hlt)
          have g0 : wr.cell? ⟨g, j * 4, none⟩ = some (.int .i64 wl[j].kind) := (World.ownsRow.cellAt HA5.out.wait (j * 4) (by dsimp only; omega)).trans hget.1
          have g1 : wr.cell? ⟨g, j * 4 + 1, none⟩ = some (.string wl[j].src) := (World.ownsRow.cellAt HA5.out.wait (j * 4 + 1) (by dsimp only; omega)).trans hget.2.1
          have g2 : wr.cell? ⟨g, j * 4 + 2, none⟩ = some (.string wl[j].dst) := (World.ownsRow.cellAt HA5.out.wait (j * 4 + 2) (by dsimp only; omega)).trans hget.2.2.1
          have g3 : wr.cell? ⟨g, j * 4 + 3, none⟩ = some (.int .i64 wl[j].file) := (World.ownsRow.cellAt HA5.out.wait (j * 4 + 3) (by dsimp only; omega)).trans hget.2.2.2
          have hSl : S.length ≤ 800000 := by rw [HS.out]; have := onAllL_len (wl.take j) sl; have h2 : (wl.take j).length ≤ wl.length := by simp; omega
                                             have := HSW.out; omega
          have HSN : Hid (onL S wl[j] = onAllL sl (wl.take (j + 1))) := by rw [Hid, List.take_succ_eq_append_getElem hlt, onAllL_snoc, ← HS.out]; rfl
          have HDO := Lib.hid (fun W (h : Fresh wr W) => rdo_any (w := W) (.slice sa2 S.length sc2) S wl[j] (HD.out _ (List.getElem_mem hlt)) (by omega) (HA5.out.safe.move h))
          generalize wl[j] = d at *
          obtain ⟨dk, dsr, dds, df⟩ := d
          dsimp only [dval] at g0 g1 g2 g3 HDO
          have HGC : Hid (∀ W, Fresh wr.drew W → W.cell? ⟨g, j * 4, none⟩ = some (.int .i64 dk) ∧ W.cell? ⟨g, j * 4 + 1, none⟩ = some (.string dsr) ∧ W.cell? ⟨g, j * 4 + 2, none⟩ = some (.string dds) ∧ W.cell? ⟨g, j * 4 + 3, none⟩ = some (.int .i64 df)) := fun W h =>
            ⟨(World.cell?_of_block (a := ⟨g, j * 4, none⟩) (h.block g hglt)).trans g0, (World.cell?_of_block (a := ⟨g, j * 4 + 1, none⟩) (h.block g hglt)).trans g1, (World.cell?_of_block (a := ⟨g, j * 4 + 2, none⟩) (h.block g hglt)).trans g2, (World.cell?_of_block (a := ⟨g, j * 4 + 3, none⟩) (h.block g hglt)).trans g3⟩
          have hne3 : ¬ g = w.heap.size := own_ne HA5.out.wait HB5.out.at_ (by decide)
          have hne4 : ¬ w.heap.size = g := fun e => hne3 e.symm
          clear hget e2 hglt hSl
          go_wp2
          go_region_law (first
            | (go_simp; go_at_call 42; refine (HDO.out _ (Fresh.refl _).drew).mono ?_; rintro e w3 ⟨o, rfl, ho, hf3⟩; obtain ⟨oa, oc, rfl⟩ := owns_slice ho; have HO3 := Lib.hid ho; have HB3 := Lib.hid (RBox.mk (hf3.at (show wr.drew.heap[w.heap.size]? = _ from HB5.out.at_))); have HF3 := Lib.hid ((Fresh.refl wr).drew.trans hf3); obtain ⟨⟨a0, a1, a2, a3, a4, a5, a6⟩, ⟨b0, b1, b2, b3, b4, b5, b6⟩⟩ := HB3.out.cells; obtain ⟨ag0, ag1, ag2, ag3⟩ := HGC.out _ hf3; clear ho hf3))
          all_goals
            have hr3 : RAt w3 ⟨fl', nl, onL S ⟨dk, dsr, dds, df⟩, wl, left, steps, down⟩ ⟨fa1, fc1, na1, nc1, oa, oc, some ⟨g, 0, none⟩, wc1⟩ :=
              ⟨owns_move HA5.out.files HF3.out, HA5.out.now.move HF3.out, HO3.out.mono (Nat.zero_le _), owns_move HA5.out.wait HF3.out⟩
            have HR4 := Lib.hid (hr3.box HB3.out.at_ (grown_set w3 w.heap.size 2 (.slice oa (onL S ⟨dk, dsr, dds, df⟩).length oc)))
            have HB4 := Lib.hid (HB3.out.set2 (.slice oa (onL S ⟨dk, dsr, dds, df⟩).length oc))
            have HZ4 : Hid (RBox (w3.setCell ⟨w.heap.size, 2, none⟩ (.slice oa (onL S ⟨dk, dsr, dds, df⟩).length oc)) (w.heap.size + 1) _ _ _ _ _ _ _) := ⟨grown_keep (grown_set w3 w.heap.size 2 _) (HF3.out.at HZ5.out.at_) (by simp)⟩
            have HF4 := Lib.hid ((HF5.out.trans HF3.out).setCell (p := ⟨w.heap.size, 2, none⟩) (Nat.le_refl _) (.slice oa (onL S ⟨dk, dsr, dds, df⟩).length oc))
            clear hr3 a0 a1 a2 a3 a4 a5 a6 b0 b1 b2 b3 b4 b5 b6 ag0 ag1 ag2 ag3
            generalize w3.setCell ⟨w.heap.size, 2, none⟩ (.slice oa (onL S ⟨dk, dsr, dds, df⟩).length oc) = w4 at *
            go_wp2
            go_roundw
            case rel => exact ⟨j + 1, onL S ⟨dk, dsr, dds, df⟩, oa, oc, HIL.out, by have := HJK.out; omega, by go_num, HSN.out, HB4.out, HR4.out, HZ4.out, HF4.out⟩
            case measure => simp [intOf]; have := HIL.out; omega
        · have HN : Hid (j = n) := by rw [Hid]; have := HMIN.out; omega
          have hcond : (¬ (j : Int) < (wl.length : Int)) ∨ ((j : Int) < (wl.length : Int) ∧ ¬ (j : Int) < keep) := by omega
          clear hgo hj hjk
          rcases hcond with hc | ⟨hc, hc2⟩
          all_goals
            go_upto_region 22 with (fail)
            obtain ⟨hbx, hgx⟩ := box_set4 HB5.out (.slice sa2 S.length sc2) (.slice none 0 0) (.int .i64 (-1)) (.bool false)
            clear p0 p1 p2 p3 p4 p5 p6 q0 q1 q2 q3 q4 q5 q6
            generalize (((wr.setCell ⟨w.heap.size, 1, none⟩ (.slice sa2 S.length sc2)).setCell ⟨w.heap.size, 3, none⟩ (.slice none 0 0)).setCell ⟨w.heap.size, 6, none⟩ (.bool false)).setCell ⟨w.heap.size, 4, none⟩ (.int .i64 (-1)) = w8 at hbx hgx ⊢
            have HZ8 : Hid (RBox w8 (w.heap.size + 1) _ _ _ _ _ _ _) := ⟨grown_keep hgx HZ5.out.at_ (by simp)⟩
            have HF8 : Hid (Fresh w w8) := Below.grown HF5.out hgx HF5.out.size (fun k e => by cases e; exact Nat.le_refl _)
            have hr8 := HA5.out.box HB5.out.at_ hgx
            have HR8 : Hid (RAt w8 ⟨fl', S, S, [], -1, steps, false⟩ ⟨fa1, fc1, sa2, sc2, sa2, sc2, none, 0⟩) := ⟨hr8.files, hr8.safe, hr8.safe, World.ownsRow_nil _ _ _ _⟩
            obtain ⟨⟨p0, p1, p2, p3, p4, p5, p6⟩, _⟩ := hbx.cells
            obtain ⟨⟨s0, s1, s2, s3, s4, s5, s6⟩, ⟨t0, t1, t2, t3, t4, t5, t6⟩⟩ := HZ8.out.cells
            clear hbx hgx hr8
            go_wp2
            refine bodyPost_ret (v := .agg #[.slice fa1 fl'.length fc1, .slice sa2 S.length sc2, .slice sa2 S.length sc2, .slice none 0 0, .int .i64 (-1), .int .i64 steps, .bool false]) (by simp [results, Try.results27, go_sem, *]) rfl ?_
            have hS := HS.out
            rw [HN.out] at hS
            subst hS
            refine ⟨fl', ⟨fa1, fc1, sa2, sc2, sa2, sc2, none, 0⟩, HLL.out, rfl, HR8.out.box HZ8.out.at_ (box_set HZ8.out _ _ _ _ _ _ _).2, ?_⟩
            repeat (refine Fresh.setCell ?_ (by simp) _)
            exact HF8.out
end Go.Proofs.Ytimcoofmemcojaa
