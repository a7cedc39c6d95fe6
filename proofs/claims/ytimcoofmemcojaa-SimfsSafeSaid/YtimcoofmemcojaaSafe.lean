/-
  The statement SimfsSafe, walked.
-/
import Derived.Test.YtimcoofmemcojaaSafeActs
namespace Go.Proofs.Ytimcoofmemcojaa
open Go.ChangeShapes Go.WideShapes Go.ChangeAt Go.RowKit
set_option linter.unusedVariables false
variable {base : Nat} {w : World} {b : Nat} {s : St} {L : Lay} {r : RSt} {k : Nat}
def nmK : ByteArray := ⟨#[107, 101, 112, 116]⟩
theorem nmK_ok : nameB nmK = true := by decide +kernel
theorem nmK_ne : nmK.size ≠ 0 := by decide
def WroteIs (base : Nat) (w : World) (b : Nat) (s : St) (data : ByteArray) (e : Ending) (w' : World) : Prop := e = .returned (.int .i64 0) ∧ ∃ (f : Nat) (s2 : St) (L2 : Lay) (c : Int) (y : ByteArray), FsAt base w' b s2 L2 ∧ s2.now nmK = some f ∧ s2.down = false ∧ s2.left = lessOne s.left ∧ s2.steps = s.steps + 1 ∧ fileAt w' f c data y ∧ Kept base w w'
theorem write_kept (h : FsAt base w b s L) (hd : s.down = false) (hz : s.left ≠ 0) (hst : s.steps ≤ 10000) (data : ByteArray) (hl : data.size ≤ 8388608) : Calls Try.prog 11 #[.pointer (some ⟨b, 0, none⟩), .string nmK, .string data] w (WroteIs base w b s data) := by
  cases hx : s.now nmK with
  | some f =>
    refine (write_old h hd hz (by omega) nmK data nmK_ok hl hx).mono ?_
    rintro e w' ⟨rfl, h1, h2, c, y, h3⟩
    exact ⟨rfl, f, _, _, c, y, h1, hx, rfl, rfl, rfl, h3, h2⟩
  | none =>
    refine (write_new h hd hz (by omega) nmK data nmK_ok hl hx).mono ?_
    rintro e w' ⟨rfl, f, L', h1, h2, c, y, h3⟩
    refine ⟨rfl, f, _, _, c, y, h1, ?_, rfl, rfl, rfl, h3, h2⟩
    show Deed.on ⟨⟨#[]⟩, nmK, f⟩ s.now nmK = some f
    rw [on_new _ _ _ nmK_ne, if_pos rfl]
theorem rel_init : Rel St.init RSt.init 0 :=
  ⟨rfl, rfl, rfl, ⟨fun s => by simp [St.init, RSt.init, atL], fun u hu => by simp [RSt.init] at hu⟩, trivial, rfl, Nat.le_refl _, Nat.le_refl _, Nat.le_refl _⟩
/-- The loop's state. -/
structure Going (w wr : World) (b bm : Nat) (s : St) (L : Lay) (r : RSt) (R : RLay) (k : Nat) : Prop where
  fs : FsAt w.heap.size wr b s L
  rel : Rel s r k
  ra : RAt wr r R
  box : RBox wr bm (.slice R.fa r.files.length R.fc) (.slice R.na r.now.length R.nc) (.slice R.sa r.safe.length R.sc) (.slice R.wa r.wait.length R.wc) (.int .i64 r.left) (.int .i64 r.steps) (.bool r.down)
  kept : Kept w.heap.size w wr
  hbm : w.heap.size ≤ bm
set_option maxRecDepth 100000 in
set_option maxHeartbeats 8000000 in
theorem safe_main (la : Option Addr) (ln lc : Nat) (data : ByteArray) (keep : Int) (ca : Option Addr) (cn cc : Nat) (w : World) (hl : ActsIs w la ln) (hk : -9223372036854775808 ≤ keep ∧ keep ≤ 9223372036854775807) (hcv : CutsV w.heap.size w ca cn) :
    Calls Try.prog 3 #[.slice la ln lc, .string data, .int .i64 keep, .slice ca cn cc] w (SafeIs w) := by
  have HA : Hid (∀ W, Calls Try.prog 6 #[] W fun e w' => e = .returned (.bool true) ∧ Fresh W w') := fun W => awake_true W
  have HNEW := Lib.hid (new_any w)
  have HL := Lib.hid hl
  have HK := Lib.hid hk
  have HCV := Lib.hid hcv
  clear hl hk hcv
  by_cases hgo : ln ≤ 60 ∧ data.size ≤ 300 ∧ cn ≤ 20
  · obtain ⟨g1, g2, g3⟩ := hgo
    have i1 : ¬ (60 : Int) < (ln : Int) := by omega
    have i2 : ¬ (300 : Int) < (data.size : Int) := by omega
    have i3 : ¬ (20 : Int) < (cn : Int) := by omega
    have HG1 := Lib.hid g1
    have HG2 := Lib.hid g2
    have HG3 := Lib.hid g3
    go_enter Try.func3, Try.ntmps3
    go_wp2_with fail
    refine HNEW.out.mono ?_
    rintro e w1 ⟨rfl, hfs, hf1⟩
    have HFS1 := Lib.hid (hfs w.heap.size (Nat.le_refl _))
    have HF1 := Lib.hid hf1
    clear hfs hf1
    go_wp2_with fail
    refine (rnew_any w1).mono ?_
    rintro e w2 ⟨rfl, hf2⟩
    have HF2 := Lib.hid hf2
    clear hf2
    have HBM : Hid (w.heap.size ≤ w2.heap.size) := Nat.le_trans HF1.out.size HF2.out.size
    have hsta : Going w (w2.alloc (.cells #[.slice none 0 0, .slice none 0 0, .slice none 0 0, .slice none 0 0, .int .i64 (-1), .int .i64 0, .bool false] 31)) (w.heap.size + 2) w2.heap.size St.init _ RSt.init RLay.nils 0 :=
      ⟨(HFS1.out.move HF2.out).move ((Fresh.refl w2).alloc _), rel_init, rinit_at _, ⟨at_new w2 _⟩, (Fresh.kept (base := w.heap.size) ((HF1.out.trans HF2.out).alloc _)), HBM.out⟩
    have HSTA := Lib.hid hsta
    clear hsta
    go_wp2
    generalize rval RSt.init RLay.nils = v43
    go_loopw [46] (fun a46 wr => ∃ (k : Nat) (s : St) (L : Lay) (r : RSt) (R : RLay), k ≤ ln ∧ a46 = .int .i64 (k : Int) ∧ Hid (Going w wr (w.heap.size + 2) w2.heap.size s L r R k)) (fun a46 _ => ln - (intOf a46).toNat)
    case atStart => exact ⟨0, St.init, _, RSt.init, RLay.nils, Nat.zero_le _, rfl, HSTA.out⟩
    case round =>
      obtain ⟨k, s, L, r, R, hk, rfl, HG⟩ := hrel
      clear HSTA
      by_cases hlt : k < ln
      · rcases HL.out with h0 | ⟨g, off, A, rfl, hA⟩
        · omega
        have HLT := Lib.hid hlt
        have hbel := HG.out.kept.below (Nat.le_refl _)
        have c0 := (Below.cell hbel (p := ⟨g, off + k * 5, none⟩) hA.low).trans (hA.c0 k hlt)
        have c1 := (Below.cell hbel (p := ⟨g, off + k * 5 + 1, none⟩) hA.low).trans (hA.c1 k hlt)
        have c2 := (Below.cell hbel (p := ⟨g, off + k * 5 + 2, none⟩) hA.low).trans (hA.c2 k hlt)
        have c3 := (Below.cell hbel (p := ⟨g, off + k * 5 + 3, none⟩) hA.low).trans (hA.c3 k hlt)
        have c4 := (Below.cell hbel (p := ⟨g, off + k * 5 + 4, none⟩) hA.low).trans (hA.c4 k hlt)
        have HCUT := Lib.hid ((hA.cuts k hlt).kept HG.out.kept (Nat.le_refl _))
        have HNUM := Lib.hid (hA.num k hlt)
        clear hA hbel
        generalize A k = av at *
        obtain ⟨kd, nm, ds, an, ca', cn', cc'⟩ := av
        dsimp only at c0 c1 c2 c3 c4 HCUT HNUM
        have hkb : k ≤ 60 := by omega
        by_cases hok : nm.size ≤ 100 ∧ ds.size ≤ 300 ∧ cn' ≤ 20
        · obtain ⟨h1, h2, h3⟩ := hok
          have j1 : ¬ (100 : Int) < (nm.size : Int) := by omega
          have j2 : ¬ (300 : Int) < (ds.size : Int) := by omega
          have j3 : ¬ (20 : Int) < (cn' : Int) := by omega
          have fX := (Fresh.refl wr).alloc (.cells #[.int .u8 kd, .string nm, .string ds, .int .i64 an, .slice ca' cn' cc'] 34)
          have hmb := RBox.mk (fX.at HG.out.box.at_)
          have hab := at_new wr (.cells #[.int .u8 kd, .string nm, .string ds, .int .i64 an, .slice ca' cn' cc'] 34)
          obtain ⟨⟨p0, p1, p2, p3, p4, p5, p6⟩, ⟨q0, q1, q2, q3, q4, q5, q6⟩⟩ := hmb.cells
          have a0 := cell_of_at hab (i := 0) rfl
          have a1 := cell_of_at hab (i := 1) rfl
          have a2 := cell_of_at hab (i := 2) rfl
          have a3 := cell_of_at hab (i := 3) rfl
          have a4 := cell_of_at hab (i := 4) rfl
          have hws : w.heap.size ≤ wr.heap.size := HG.out.kept.size
          have HDO := Lib.hid (act_any (k := k) ⟨HG.out.fs.move fX, HG.out.rel, by omega⟩ R kd nm ds an ca' cn' cc' (by omega) (by omega) HNUM.out (by omega) (HCUT.out.kept (Fresh.kept fX) hws) (HG.out.ra.move fX))
          have HKX := Lib.hid (HG.out.kept.fresh fX)
          have HMB := Lib.hid hmb
          clear fX hmb hab h1 h2 h3 hws
          dsimp only [rval] at HDO
          go_wp2_with fail
          refine HDO.out.mono ?_
          rintro e w3 ⟨s', L', ⟨fl', nl', sl', wl', left', steps', down'⟩, ⟨fa', fc', na', nc', sa', sc', wa', wc'⟩, rfl, hfs, hra, hrel', hk3⟩
          dsimp only [rval] at hra ⊢
          have HFS3 := Lib.hid hfs
          have HRA3 := Lib.hid hra
          have HREL3 := Lib.hid hrel'
          have HK3 := Lib.hid (HKX.out.trans hk3)
          have HMB3 := Lib.hid (RBox.mk (hk3.at HMB.out.at_ (by decide)))
          clear hfs hra hrel' hk3 p0 p1 p2 p3 p4 p5 p6 q0 q1 q2 q3 q4 q5 q6 a0 a1 a2 a3 a4 HDO HMB HKX
          go_upto_region 11 with (fail)
          have fN := (Fresh.refl w3).alloc (.cells #[.slice fa' fl'.length fc', .slice na' nl'.length nc', .slice sa' sl'.length sc', .slice wa' wl'.length wc', .int .i64 left', .int .i64 (steps' : Nat), .bool down'] 31)
          have HNB : Hid (RBox (w3.alloc (.cells #[.slice fa' fl'.length fc', .slice na' nl'.length nc', .slice sa' sl'.length sc', .slice wa' wl'.length wc', .int .i64 left', .int .i64 (steps' : Nat), .bool down'] 31)) w3.heap.size _ _ _ _ _ _ _) := ⟨at_new w3 _⟩
          have HMB4 := Lib.hid (RBox.mk (fN.at HMB3.out.at_))
          have HFS4 := Lib.hid (HFS3.out.move fN)
          have HRA4 := Lib.hid (HRA3.out.move fN)
          have HK4 := Lib.hid (HK3.out.fresh fN)
          clear fN HMB3 HFS3 HRA3 HK3
          generalize w3.alloc (.cells #[.slice fa' fl'.length fc', .slice na' nl'.length nc', .slice sa' sl'.length sc', .slice wa' wl'.length wc', .int .i64 left', .int .i64 (steps' : Nat), .bool down'] 31) = w4 at *
          generalize w3.heap.size = bn at *
          obtain ⟨⟨n0, n1, n2, n3, n4, n5, n6⟩, _⟩ := HNB.out.cells
          obtain ⟨⟨p0, p1, p2, p3, p4, p5, p6⟩, ⟨q0, q1, q2, q3, q4, q5, q6⟩⟩ := HMB4.out.cells
          go_upto_region 12 with (fail)
          obtain ⟨hbx, hgx⟩ := box_set HMB4.out (.slice fa' fl'.length fc') (.slice na' nl'.length nc') (.slice sa' sl'.length sc') (.slice wa' wl'.length wc') (.int .i64 left') (.int .i64 (steps' : Nat)) (.bool down')
          clear p0 p1 p2 p3 p4 p5 p6 q0 q1 q2 q3 q4 q5 q6 n0 n1 n2 n3 n4 n5 n6
          generalize (((((((w4.setCell ⟨w2.heap.size, 0, none⟩ (.slice fa' fl'.length fc')).setCell ⟨w2.heap.size, 1, none⟩ (.slice na' nl'.length nc')).setCell ⟨w2.heap.size, 2, none⟩ (.slice sa' sl'.length sc')).setCell ⟨w2.heap.size, 3, none⟩ (.slice wa' wl'.length wc')).setCell ⟨w2.heap.size, 4, none⟩ (.int .i64 left')).setCell ⟨w2.heap.size, 5, none⟩ (.int .i64 (steps' : Nat))).setCell ⟨w2.heap.size, 6, none⟩ (.bool down')) = w5 at hbx hgx ⊢
          have HG5 : Hid (Going w w5 (w.heap.size + 2) w2.heap.size s' L' ⟨fl', nl', sl', wl', left', steps', down'⟩ ⟨fa', fc', na', nc', sa', sc', wa', wc'⟩ (k + 1)) :=
            ⟨HFS4.out.off HMB4.out.at_ (by decide) hgx, HREL3.out, HRA4.out.box HMB4.out.at_ hgx, hbx, HK4.out.own hgx HBM.out, HBM.out⟩
          clear hbx hgx HMB4 HFS4 HRA4 HK4 HNB HREL3
          go_wp2
          go_roundw
          case rel => exact ⟨k + 1, s', L', _, _, HLT.out, by go_num, HG5.out⟩
          case measure => simp [intOf]; have := HLT.out; omega
        · have hcond : (100 : Int) < (nm.size : Int) ∨ (¬ (100 : Int) < (nm.size : Int) ∧ (300 : Int) < (ds.size : Int)) ∨ (¬ (100 : Int) < (nm.size : Int) ∧ ¬ (300 : Int) < (ds.size : Int) ∧ (20 : Int) < (cn' : Int)) := by omega
          have HFG := Lib.hid ((HG.out.kept.fresh ((Fresh.refl wr).alloc (.cells #[.int .u8 kd, .string nm, .string ds, .int .i64 an, .slice ca' cn' cc'] 34))))
          clear hok
          rcases hcond with j1 | ⟨j1, j2⟩ | ⟨j1, j2, j3⟩
          all_goals
            go_wp2_with fail
            refine (HA.out _).mono ?_
            rintro e w3 ⟨rfl, hf3⟩
            have HF3 := Lib.hid (HFG.out.fresh hf3)
            clear hf3
            go_wp2
            go_ret
            exact ⟨rfl, HF3.out.below (Nat.le_refl _)⟩
      · obtain rfl : k = ln := by omega
        have HK0 := Lib.hid HG.out.kept
        have hst : s.steps ≤ 60 := Nat.le_trans HG.out.rel.ss HG1.out
        have HST := Lib.hid hst
        have HFS := Lib.hid HG.out.fs
        have hlow : w.heap.size ≤ wr.heap.size := HG.out.kept.size
        clear hst hk hlt HL
        cases hdn : s.down with
        | true =>
          have HDN := Lib.hid (down_any HFS.out)
          rw [hdn] at HDN
          clear hdn
          go_wp2_with fail
          refine HDN.out.mono ?_
          rintro e w' ⟨rfl, rfl⟩
          go_wp2_with fail
          refine (HA.out _).mono ?_
          rintro e w3 ⟨rfl, hf3⟩
          have HF3 := Lib.hid (HK0.out.fresh hf3)
          clear hf3
          go_wp2
          go_ret
          exact ⟨rfl, HF3.out.below (Nat.le_refl _)⟩
        | false =>
          have HDN := Lib.hid (down_any HFS.out)
          rw [hdn] at HDN
          have HDF := Lib.hid hdn
          clear hdn
          go_wp2_with fail
          refine HDN.out.mono ?_
          rintro e w' ⟨rfl, rfl⟩
          go_wp2_with fail
          refine (arm_any HFS.out (-1) (by omega)).mono ?_
          rintro e w3 ⟨rfl, hfs3, hk3, _⟩
          have HFS3 := Lib.hid hfs3
          have HK3 := Lib.hid (HK0.out.trans hk3)
          clear hfs3 hk3
          go_wp2_with fail
          refine (write_kept HFS3.out (by show s.down = false; exact HDF.out) (by show max (-1 : Int) (-1) ≠ 0; omega) (by show s.steps ≤ 10000; have := HST.out; omega) data (by have := HG2.out; omega)).mono ?_
          rintro e w4 ⟨rfl, f, s2, L2, c, y, hfs4, hnow, hdown, hleft, hsteps, hfile, hk4⟩
          have HFS4 := Lib.hid hfs4
          have HK4 := Lib.hid (HK3.out.trans hk4)
          have HFI4 := Lib.hid hfile
          have HS2 : Hid (s2.now nmK = some f ∧ s2.down = false ∧ s2.left = -1 ∧ s2.steps ≤ 61) := by
            refine ⟨hnow, hdown, ?_, ?_⟩
            · rw [hleft]; show lessOne (max (-1) (-1)) = -1; decide
            · rw [hsteps]; show s.steps + 1 ≤ 61; have := HST.out; omega
          clear hfs4 hk4 hfile hnow hdown hleft hsteps
          go_wp2_with fail
          refine (sync_some HFS4.out HS2.out.2.1 (by rw [HS2.out.2.2.1]; decide) (by have := HS2.out.2.2.2; omega) nmK nmK_ok HS2.out.1).mono ?_
          rintro e w5 ⟨rfl, hfs5, hk5, hfile5⟩
          have HFS5 := Lib.hid hfs5
          have HK5 := Lib.hid (HK4.out.trans hk5)
          have HFI5 := Lib.hid (hfile5 _ _ _ HFI4.out)
          clear hfs5 hk5 hfile5
          have hl2 : lessOne s2.left ≠ 0 := by rw [HS2.out.2.2.1]; decide
          go_wp2_with fail
          refine (syncdir_ok HFS5.out rfl hl2 (by show s2.steps + 1 ≤ 900000; have := HS2.out.2.2.2; omega)).mono ?_
          rintro e w6 ⟨rfl, ⟨L6, hfs6⟩, hk6, hsame⟩
          have HFS6 := Lib.hid hfs6
          have HK6 := Lib.hid (HK5.out.trans hk6)
          have HFI6 := Lib.hid (hsame _ _ _ _ HFI5.out)
          clear hfs6 hk6 hsame hl2
          have hmin : min (max keep 0) (((s2.step.step.made).wait.length : Nat) : Int) = ((0 : Nat) : Int) := by
            show min (max keep 0) ((([] : List Deed).length : Nat) : Int) = ((0 : Nat) : Int)
            simp; omega
          have HCR := Lib.hid (crash_of HFS6.out (by show s2.steps + 1 + 1 ≤ 100000; have := HS2.out.2.2.2; omega) keep (.slice ca cn cc) (tear_of HFS6.out (by show s2.steps + 1 + 1 ≤ 100000; have := HS2.out.2.2.2; omega) (HCV.out.kept HK6.out (Nat.le_refl _)) (by have := HG3.out; omega)) 0 hmin)
          clear hmin
          go_wp2_with fail
          refine HCR.out.mono ?_
          rintro e w7 ⟨rfl, ⟨L7, hfs7⟩, hk7, halike⟩
          have HFS7 := Lib.hid hfs7
          have HK7 := Lib.hid (HK6.out.trans hk7)
          have HFI7 := Lib.hid (halike _ _ _ HFI6.out)
          clear hfs7 hk7 halike HCR
          have HRD := Lib.hid (read_some HFS7.out rfl nmK nmK_ok (show onAll (s2.step.step.made).safe ((s2.step.step.made).wait.take 0) nmK = some f from HS2.out.1) HFI7.out)
          go_wp2_with fail
          refine HRD.out.mono ?_
          rintro e w' ⟨rfl, rfl⟩
          go_wp2_with fail
          refine (HA.out _).mono ?_
          rintro e w8 ⟨rfl, hf8⟩
          have HK8 := Lib.hid (HK7.out.fresh hf8)
          have HDN8 := Lib.hid (down_any (HFS7.out.move hf8))
          clear hf8
          have hdd : (data.toList == data.toList) = true := by simp
          go_wp2_with fail
          refine HDN8.out.mono ?_
          rintro e w' ⟨rfl, rfl⟩
          go_wp2
          go_ret
          exact ⟨rfl, HK8.out.below (Nat.le_refl _)⟩
  · have hcond : (60 : Int) < (ln : Int) ∨ (¬ (60 : Int) < (ln : Int) ∧ (300 : Int) < (data.size : Int)) ∨ (¬ (60 : Int) < (ln : Int) ∧ ¬ (300 : Int) < (data.size : Int) ∧ (20 : Int) < (cn : Int)) := by omega
    clear hgo
    rcases hcond with i1 | ⟨i1, i2⟩ | ⟨i1, i2, i3⟩
    all_goals
      go_enter Try.func3, Try.ntmps3
      go_wp2_with fail
      refine HNEW.out.mono ?_
      rintro e w1 ⟨rfl, _, hf1⟩
      have HF1 := Lib.hid hf1
      clear hf1
      go_wp2_with fail
      refine (HA.out w1).mono ?_
      rintro e w2 ⟨rfl, hf2⟩
      have HF2 := Lib.hid (HF1.out.trans hf2)
      clear hf2
      go_wp2
      go_ret
      exact ⟨rfl, HF2.out⟩
end Go.Proofs.Ytimcoofmemcojaa
