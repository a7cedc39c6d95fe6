/-
  Are two states of version 3 alike, by the document?
  What a strings.Builder of this program does when a text is written: its bytes behind what it holds.
  What the writer of package ckthree, which has a strings.Builder in it, does when a text is written: its bytes behind what it holds.
  What is wrong with a state of version 1, by package ckone.
  The bytes of a state of version 1, by package ckone.
-/
import Derived.Test.YtldncgelghcjeaaGreatDoorCat06
import Derived.Test.YtldncgelghcjeaaGreatDoorCat20
import Derived.Test.YtldncgelghcjeaaGreatDoorCat02
import Derived.Test.YtldncgelghcjeaaGreatDoorCat01
import Derived.Lib.AppendStr
import Derived.Deep.QuietTactic
import Derived.Test.YtldncgelghcjeaaGreatDoorCat05
import Derived.Test.YtldncgelghcjeaaGreatDoorCat12
import Derived.Test.YtldncgelghcjeaaGreatDoorCat10
import Derived.Deep.RegionHeld3
set_option linter.unusedSimpArgs false
set_option linter.unusedVariables false
namespace Go.Proofs.YtldncgelghcjeaaGreatDoor.K
open Go.ChangeShapes Go.WideShapes Go.ChangeAt Go.RowKit
set_option maxRecDepth 100000

set_option maxHeartbeats 4000000 in
theorem rsame3_any (s t : Int) (l m : List M3) (a a' : Option Addr) (cap cap' : Nat) (w : World) (ha : Row3 w a l) (ha' : Row3 w a' m) (hl : l.length ≤ 4000000) (hlo : ∀ x ∈ l, x.m.Low) (hlo' : ∀ x ∈ m, x.m.Low) :
    Calls Tryz.prog 21 #[st3 s a l.length cap, st3 t a' m.length cap'] w fun e w' => e = .returned (.bool (same3 s t (pods3 l) (pods3 m))) ∧ Fresh w w' := by
  have HE : Hid (same3 s t (pods3 l) (pods3 m) = (decide (s = t) && eq3 (pods3 l) (pods3 m))) := rfl
  have HX := Lib.hid (two_boxes w (.cells #[.int .u64 s, .slice a l.length cap] 30) (.cells #[.int .u64 t, .slice a' m.length cap'] 30))
  have HF0 := Lib.hid HX.out.2.2.1
  have HROW := Lib.hid (ha.move HF0.out)
  have HROW' := Lib.hid (ha'.move HF0.out)
  have HLO := Lib.hid hlo
  have HLO' := Lib.hid hlo'
  clear ha ha' hlo hlo'
  dsimp only [st3]
  generalize same3 s t (pods3 l) (pods3 m) = R at *
  by_cases hs : s = t
  case neg =>
    have HR : Hid (R = false) := by rw [Hid, HE.out, decide_eq_false hs]; rfl
    have e0 : (s == t) = false := by rw [beq_eq_false_iff_ne]; exact hs
    clear HE
    go_enter Tryz.func21, Tryz.ntmps21
    go_wp2
    go_ret
    exact ⟨ret_bool HR.out.symm, HF0.out⟩
  subst hs
  have HR0 : Hid (R = eq3 (pods3 l) (pods3 m)) := by rw [Hid, HE.out]; simp
  clear HE
  have HPL : Hid ((pods3 l).length = l.length ∧ (pods3 m).length = m.length) := by simp [Hid, pods3]
  by_cases hlen : l.length = m.length
  case neg =>
    have HR : Hid (R = false) := by rw [Hid, HR0.out, eq3_len _ _ (by rw [HPL.out.1, HPL.out.2]; exact hlen)]
    have e0 : ((l.length : Int) == (m.length : Int)) = false := by rw [beq_eq_false_iff_ne]; omega
    go_enter Tryz.func21, Tryz.ntmps21
    go_wp2
    all_goals try (exfalso; omega)
    go_ret
    exact ⟨ret_bool HR.out.symm, HF0.out⟩
  have HN2 : Hid (m.length = l.length) := hlen.symm
  have hd2 := HN2.out
  rw [hd2] at HX HF0 HROW HROW' HPL ⊢
  clear hd2 hlen
  generalize hn : l.length = n at *
  have HNN := Lib.hid hn
  clear hn
  go_enter Tryz.func21, Tryz.ntmps21
  go_wp2
  all_goals try (exfalso; omega)
  generalize (w.alloc (.cells #[.int .u64 s, .slice a n cap] 30)).alloc (.cells #[.int .u64 s, .slice a' n cap'] 30) = W0 at *
  obtain ⟨b, hb⟩ : ∃ b, b = w.heap.size := ⟨_, rfl⟩
  rw [← hb] at HX ⊢
  clear hb
  go_loopw [5] (fun a5 wr => ∃ (k : Nat), a5 = .int .i64 (k : Int) ∧ k ≤ n ∧ Hid (R = eq3 ((pods3 l).drop k) ((pods3 m).drop k)) ∧ Hid (Fresh W0 wr)) (fun a5 _ => n - (intOf a5).toNat)
  case atStart => exact ⟨0, rfl, Nat.zero_le _, HR0.out, Fresh.refl _⟩
  case round =>
  obtain ⟨k, rfl, hk, HE, HF⟩ := hrel
  obtain ⟨b0, b1, _⟩ := st3_box (HF.out.at HX.out.1)
  obtain ⟨d0, d1, _⟩ := st3_box (HF.out.at HX.out.2.1)
  by_cases hltn : k < n
  case pos =>
    have hlt : k < l.length := by rw [HNN.out]; exact hltn
    have hlt' : k < m.length := by rw [HN2.out]; exact hltn
    have hR := HROW.out.move HF.out
    have hR' := HROW'.out.move HF.out
    obtain ⟨g, o1, rfl, hc⟩ := m3_form hR.row hlt
    obtain ⟨g', o1', rfl, hc'⟩ := m3_form hR'.row hlt'
    obtain ⟨c0, c1, c2, c3, c4, c5, c6⟩ := hc k hlt
    obtain ⟨v0, v1, v2, v3, v4, v5, v6⟩ := hc' k hlt'
    have hkp : k < (pods3 l).length := by rw [HPL.out.1]; exact hltn
    have hkp' : k < (pods3 m).length := by rw [HPL.out.2]; exact hltn
    have hpk := pods3_get hlt hkp
    have hpk' := pods3_get hlt' hkp'
    have HIN := Lib.hid (hR.ins _ (List.getElem_mem hlt))
    have HIN' := Lib.hid (hR'.ins _ (List.getElem_mem hlt'))
    have hlo1 := HLO.out _ (List.getElem_mem hlt)
    have hlo2 := HLO'.out _ (List.getElem_mem hlt')
    have HCALL := Lib.hid (fun W (f : Fresh wr W) => Go.Proofs.YtldncgelghcjeaaGreatDoor.rsame_any l[k].m m[k].m W (HIN.out.move f) (HIN'.out.move f) hlo1 hlo2)
    have HST : Hid (R = (P3.eqB l[k].p m[k].p && eq3 ((pods3 l).drop (k + 1)) ((pods3 m).drop (k + 1)))) := by
      have := HE.out.trans (eq3_drop hkp hkp')
      rw [hpk, hpk'] at this; exact this
    clear hc hc' hR hR' hkp hkp' hpk hpk' HE HIN HIN' hlo1 hlo2
    generalize l[k] = p at *
    generalize m[k] = q at *
    clear hlt hlt'
    obtain ⟨x0, x1, x2, x3, x4, x5, xa, xc, xs⟩ := p
    obtain ⟨y0, y1, y2, y3, y4, y5, ya, yc, ys⟩ := q
    have HST : Hid (R = ((decide (x0 = y0) && sameP (PM.pd ⟨x1, x2, x3, x4, x5, xa, xc, xs⟩) (PM.pd ⟨y1, y2, y3, y4, y5, ya, yc, ys⟩)) && eq3 ((pods3 l).drop (k + 1)) ((pods3 m).drop (k + 1)))) := HST.out
    dsimp only [PM.val] at *
    generalize sameP (PM.pd ⟨x1, x2, x3, x4, x5, xa, xc, xs⟩) (PM.pd ⟨y1, y2, y3, y4, y5, ya, yc, ys⟩) = SC at *
    generalize xs.length = xl at *
    generalize ys.length = yl at *
    have i1 : (0 : Int) ≤ (k : Int) := by omega
    have i2 : (k : Int) < (n : Int) := by omega
    by_cases h1 : x0 = y0
    case neg =>
      have HR : Hid (R = false) := by rw [Hid, HST.out, decide_eq_false h1]; rfl
      have e1 := tl_ne h1
      clear HST h1 HCALL
      go_wp2_with (fail)
      go_quiet (fail)
      go_wp2
      all_goals try (exfalso; omega)
      go_ret
      exact ⟨ret_bool HR.out.symm, (HF0.out.trans HF.out).trans (fresh_drewN _ _)⟩
    subst h1
    have HST : Hid (R = (SC && eq3 ((pods3 l).drop (k + 1)) ((pods3 m).drop (k + 1)))) := by rw [Hid, HST.out]; simp
    have HKP : Hid (∀ W, Fresh wr W → (W.cell? ⟨b, 1, none⟩ = some (.slice (some ⟨g, o1, none⟩) n cap) ∧ W.cell? ⟨b + 1, 1, none⟩ = some (.slice (some ⟨g', o1', none⟩) n cap'))
      ∧ (W.cell? ⟨g, o1 + k * 7, none⟩ = some (.string x0) ∧ W.cell? ⟨g, o1 + k * 7 + 1, none⟩ = some (.string x1) ∧ W.cell? ⟨g, o1 + k * 7 + 2, none⟩ = some (.string x2) ∧ W.cell? ⟨g, o1 + k * 7 + 3, none⟩ = some (.int .i64 x3) ∧ W.cell? ⟨g, o1 + k * 7 + 4, none⟩ = some (.int .i64 x4) ∧ W.cell? ⟨g, o1 + k * 7 + 5, none⟩ = some (.bool x5) ∧ W.cell? ⟨g, o1 + k * 7 + 6, none⟩ = some (.slice xa xl xc))
      ∧ (W.cell? ⟨g', o1' + k * 7, none⟩ = some (.string x0) ∧ W.cell? ⟨g', o1' + k * 7 + 1, none⟩ = some (.string y1) ∧ W.cell? ⟨g', o1' + k * 7 + 2, none⟩ = some (.string y2) ∧ W.cell? ⟨g', o1' + k * 7 + 3, none⟩ = some (.int .i64 y3) ∧ W.cell? ⟨g', o1' + k * 7 + 4, none⟩ = some (.int .i64 y4) ∧ W.cell? ⟨g', o1' + k * 7 + 5, none⟩ = some (.bool y5) ∧ W.cell? ⟨g', o1' + k * 7 + 6, none⟩ = some (.slice ya yl yc))) := fun W f =>
      ⟨⟨f.cell b1, f.cell d1⟩, ⟨f.cell c0, f.cell c1, f.cell c2, f.cell c3, f.cell c4, f.cell c5, f.cell c6⟩, f.cell v0, f.cell v1, f.cell v2, f.cell v3, f.cell v4, f.cell v5, f.cell v6⟩
    have HK : Hid (Fresh wr wr.drew) := (Fresh.refl wr).drew
    cases SC
    all_goals
      go_wp2_with (fail)
      go_region_held3 (fun w' => (w'.cell? ⟨b, 1, none⟩ = some (.slice (some ⟨g, o1, none⟩) n cap) ∧ w'.cell? ⟨b + 1, 1, none⟩ = some (.slice (some ⟨g', o1', none⟩) n cap'))
      ∧ (w'.cell? ⟨g, o1 + k * 7, none⟩ = some (.string x0) ∧ w'.cell? ⟨g, o1 + k * 7 + 1, none⟩ = some (.string x1) ∧ w'.cell? ⟨g, o1 + k * 7 + 2, none⟩ = some (.string x2) ∧ w'.cell? ⟨g, o1 + k * 7 + 3, none⟩ = some (.int .i64 x3) ∧ w'.cell? ⟨g, o1 + k * 7 + 4, none⟩ = some (.int .i64 x4) ∧ w'.cell? ⟨g, o1 + k * 7 + 5, none⟩ = some (.bool x5) ∧ w'.cell? ⟨g, o1 + k * 7 + 6, none⟩ = some (.slice xa xl xc))
      ∧ (w'.cell? ⟨g', o1' + k * 7, none⟩ = some (.string x0) ∧ w'.cell? ⟨g', o1' + k * 7 + 1, none⟩ = some (.string y1) ∧ w'.cell? ⟨g', o1' + k * 7 + 2, none⟩ = some (.string y2) ∧ w'.cell? ⟨g', o1' + k * 7 + 3, none⟩ = some (.int .i64 y3) ∧ w'.cell? ⟨g', o1' + k * 7 + 4, none⟩ = some (.int .i64 y4) ∧ w'.cell? ⟨g', o1' + k * 7 + 5, none⟩ = some (.bool y5) ∧ w'.cell? ⟨g', o1' + k * 7 + 6, none⟩ = some (.slice ya yl yc))) (go_keep)
        (first
          | (go_at_call 18; (with_reducible refine (HCALL.out _ HK.out).mono ?_); rintro e W2 ⟨rfl, hf⟩; have HK := Lib.hid (HK.out.trans hf); obtain ⟨⟨b1, d1⟩, ⟨c0, c1, c2, c3, c4, c5, c6⟩, v0, v1, v2, v3, v4, v5, v6⟩ := HKP.out _ HK.out; clear hf))
      go_wp2
      all_goals try (exfalso; omega)
    · go_ret
      exact ⟨ret_bool (show false = R by rw [HST.out]; rfl), (HF0.out.trans HF.out).trans HK.out⟩
    · go_roundw
      case rel => exact ⟨k + 1, by simp, by omega, by rw [Hid, HST.out]; rfl, HF.out.trans HK.out⟩
      case measure => simp [intOf]; omega
  case neg =>
    obtain rfl : k = n := by omega
    have HR : Hid (R = true) := by rw [Hid, HE.out, List.drop_of_length_le (by rw [HPL.out.1]; exact Nat.le_refl _), List.drop_of_length_le (by rw [HPL.out.2]; exact Nat.le_refl _)]; rfl
    go_wp2
    all_goals try (exfalso; omega)
    go_ret
    exact ⟨ret_bool HR.out.symm, HF0.out.trans HF.out⟩
end Go.Proofs.YtldncgelghcjeaaGreatDoor.K
namespace Go.Proofs.YtldncgelghcjeaaGreatDoor.K
open Go.ChangeShapes Go.WideShapes Go.ChangeAt Go.RowKit
set_option maxRecDepth 100000

/-- A builder in block b: these bytes. -/
def Bld (B b : Nat) (l : List UInt8) (w : World) : Prop := Lib.IsBuilder 100 5 B b (Lib.byteCells l) w
theorem infoB : (Tryz.prog.info? 100).map (·.size) = some 2 := by kernel_rfl
theorem copy_used (b : Nat) (w : World) (h0 : w.cell? ⟨b, 0, none⟩ = some (.pointer (some ⟨b, 0, none⟩))) :
    Calls Tryz.prog 131 #[.pointer (some ⟨b, 0, none⟩)] w fun e w' => e = .returned (.tuple #[]) ∧ w' = w := by
  obtain ⟨j, hj, hjs⟩ := Option.map_eq_some_iff.1 infoB
  have hne := Lib.run_neq_ptr_same (P := Tryz.prog) w ⟨b, 0, none⟩ Tryz.underlying97 hj
  clear hj hjs
  go_enter Tryz.func131, Tryz.ntmps131
  go_wp2
  go_end0
  exact ⟨rfl, rfl⟩
theorem liesB : liesAt Tryz.prog Tryz.prog.depth 100 (2 / Tryz.prog.cellsOf 100) 0 100 1 = true := by kernel_rfl
theorem copy_fresh (b : Nat) (w : World) (h0 : w.cell? ⟨b, 0, none⟩ = some (.pointer none)) (hsh : w.shape? b = some (100, 2)) (hfz : w.frozen? ⟨b, 0, none⟩ = false) :
    Calls Tryz.prog 131 #[.pointer (some ⟨b, 0, none⟩)] w fun e w' => e = .returned (.tuple #[]) ∧ w' = w.setCell ⟨b, 0, none⟩ (.pointer (some ⟨b, 0, none⟩)) := by
  obtain ⟨j, hj, hjs⟩ := Option.map_eq_some_iff.1 infoB
  have h1 := Lib.run_to_unsafe (P := Tryz.prog) w ⟨b, 0, none⟩ Tryz.underlying97 Tryz.underlying227 hj (by rw [hjs]; decide) hsh (Nat.zero_lt_succ 1)
  have h2 := Lib.run_from_unsafe (P := Tryz.prog) w ⟨b, 0, none⟩ Tryz.underlying227 Tryz.underlying97 hj hsh liesB
  have hne := fun W : World => Lib.run_neq_ptr_same (P := Tryz.prog) W ⟨b, 0, none⟩ Tryz.underlying97 hj
  clear hj hjs hsh
  go_enter Tryz.func131, Tryz.ntmps131
  go_wp2
  rw [run_callFunc_extern Tryz.func163 (by kernel_rfl) (by kernel_rfl) (by kernel_rfl) (e := Extern.AbiNoEscape.same) (by kernel_rfl)]
  rw [Lib.run_noEscape]
  simp only [Result.andThen]
  rw [Oper.upon_value]
  go_wp2
  go_end0
  exact ⟨rfl, rfl⟩
theorem copy_any (B b : Nat) (l : List UInt8) (w : World) (h : Bld B b l w) :
    Calls Tryz.prog 131 #[.pointer (some ⟨b, 0, none⟩)] w fun e w' => e = .returned (.tuple #[]) ∧ (Lib.BuilderAt 100 5 B b (.pointer (some ⟨b, 0, none⟩)) (Lib.byteCells l) w' ∧ Below B w w') := by
  rcases h with h | h
  · refine (copy_fresh b w h.cell0 h.shape h.frozen0).mono ?_
    rintro e w' ⟨rfl, rfl⟩
    exact ⟨rfl, h.used _, (Below.refl B w).setCell (p := ⟨b, 0, none⟩) h.1 _⟩
  · refine (copy_used b w h.cell0).mono ?_
    rintro e w' ⟨rfl, rfl⟩
    exact ⟨rfl, h, Below.refl B _⟩
theorem bytes_app (l m : List UInt8) : Lib.byteCells l ++ Lib.byteCells m = Lib.byteCells (l ++ m) := by simp [Lib.byteCells]
theorem bytes_len (l : List UInt8) : (Lib.byteCells l).length = l.length := Lib.byteCells_length l
theorem str_cells (s : ByteArray) : Lib.strCells s = Lib.byteCells s.data.toList := rfl
set_option maxHeartbeats 1000000 in
theorem write_any (B b : Nat) (l : List UInt8) (s : ByteArray) (w : World) (h : Bld B b l w) (hlen : l.length + s.size ≤ 140737488355328) (hBw : B ≤ w.heap.size) :
    Calls Tryz.prog 89 #[.pointer (some ⟨b, 0, none⟩), .string s] w fun e w' => e = .returned (.tuple #[.int .i64 s.size, .nilIface]) ∧ Bld B b (l ++ s.data.toList) w' ∧ Below B w w' := by
  obtain ⟨i0, hi, hz0, hz1, hz2⟩ := info_parts info5
  have HC := Lib.hid (copy_any B b l w h)
  have hl : (Lib.byteCells l).length = l.length := bytes_len l
  clear h
  go_enter Tryz.func89, Tryz.ntmps89
  go_wp2_with (fail)
  refine HC.out.mono ?_
  rintro e w1 ⟨rfl, h1, hb1⟩
  obtain ⟨hB, v, hbk, hown, hne⟩ := h1
  have c0 : w1.cell? ⟨b, 0, none⟩ = some (.pointer (some ⟨b, 0, none⟩)) := by rw [Lib.cell_of_heap hbk]; rfl
  have c1 : w1.cell? ⟨b, 1, none⟩ = some v := by rw [Lib.cell_of_heap hbk]; rfl
  have hsz := hb1.size
  go_wp2_with (at_builtin; refine Lib.wpList_append_own_string _ rfl _ _ 98 9 rfl B 5 i0 Tryz.underlying98 Tryz.underlying9 hi hz0 hz1 hz2 _ _ _ rfl hown s rfl ?c3 ?c4 ?c5 ?_)
  case c3 => unfold maxLen; omega
  case c4 => omega
  case c5 => omega
  intro v' w2 hown' hgrow _
  have hlt : b < w1.heap.size := lt_of_at hbk
  have hb2 : w2.heap[b]? = some (.cells #[.pointer (some ⟨b, 0, none⟩), v] 100 (0, 0)) := by
    rw [hgrow.block b hlt (fun e => hne e.symm)]
    exact hbk
  have d0 : w2.cell? ⟨b, 0, none⟩ = some (.pointer (some ⟨b, 0, none⟩)) := by rw [Lib.cell_of_heap hb2]; rfl
  have d1 : w2.cell? ⟨b, 1, none⟩ = some v := by rw [Lib.cell_of_heap hb2]; rfl
  have f1 : w2.frozen? ⟨b, 1, none⟩ = false := Lib.frozen_of_heap hb2 1
  obtain ⟨ao, n', cap, rfl⟩ : ∃ ao n' cap, v' = .slice ao n' cap := by
    rcases hown'.2 with ⟨hv, _⟩ | ⟨g, cap, cur, hv, _⟩
    · exact ⟨_, _, _, hv⟩
    · exact ⟨_, _, _, hv⟩
  go_wp2
  go_ret2
  refine ⟨rfl, .inr ?_, ?_⟩
  · refine Lib.BuilderAt.put (T := 100) (e := 5) hB hb2 (bs' := Lib.byteCells (l ++ s.data.toList)) ?_ (by decide)
    have := hown'
    rw [str_cells, bytes_app] at this
    rw [bytes_len, List.length_append]
    rw [← Lib.size_eq]
    exact this
  · exact (hb1.grown hgrow (by omega) (fun k hk => (hown.lt k hk).1)).setCell (p := ⟨b, 1, none⟩) hB _
theorem str_any (B b : Nat) (l : List UInt8) (w : World) (h : Bld B b l w) (hBw : B ≤ w.heap.size) :
    Calls Tryz.prog 48 #[.pointer (some ⟨b, 0, none⟩)] w fun e w' => e = .returned (.string ⟨l.toArray⟩) ∧ Below B w w' := Tryz.Builder_String_any B b l w h hBw
theorem bld_new (w : World) : Bld w.heap.size w.heap.size [] (w.alloc (.cells #[.pointer none, .slice none 0 0] 100)) := Lib.fresh_isBuilder _ _ w
/-- What is fresh in memory that isn't the builder's leaves it as it is. -/
theorem Bld.fresh {B b : Nat} {l : List UInt8} {w w' : World} (h : Bld B b l w) (f : Fresh w w') : Bld B b l w' := by
  have key : ∀ p, Lib.BuilderAt 100 5 B b p (Lib.byteCells l) w → Lib.BuilderAt 100 5 B b p (Lib.byteCells l) w' := fun p h => by
    obtain ⟨hB, v, hbk, hown, hne⟩ := h
    refine ⟨hB, v, f.at hbk, ?_, hne⟩
    refine World.ownsRow.kept (row := none) hown ⟨f.os, f.tape, f.output, f.size, fun k hk _ => f.block k hk⟩ ?_
    rcases h' : v.ownBlock with _ | g
    · exact .inl rfl
    · exact .inr (by simp)
  rcases h with h | h
  · exact .inl (key _ h)
  · exact .inr (key _ h)
end Go.Proofs.YtldncgelghcjeaaGreatDoor.K
namespace Go.Proofs.YtldncgelghcjeaaGreatDoor.K
open Go.ChangeShapes Go.WideShapes Go.ChangeAt Go.RowKit
set_option maxRecDepth 100000

/-- A writer in block b: these bytes. -/
def BldW (b : Nat) (l : List UInt8) (w : World) : Prop := Lib.IsBuilder 102 5 b b (Lib.byteCells l) w
theorem BldW.lt {b : Nat} {l : List UInt8} {w : World} (h : BldW b l w) : b < w.heap.size := by
  rcases h with h | h
  · exact h.lt
  · exact h.lt
theorem liesW : liesAt Tryz.prog Tryz.prog.depth 102 (2 / Tryz.prog.cellsOf 102) 0 100 1 = true := by kernel_rfl
theorem copyW_fresh (b : Nat) (w : World) (h0 : w.cell? ⟨b, 0, none⟩ = some (.pointer none)) (hsh : w.shape? b = some (102, 2)) (hfz : w.frozen? ⟨b, 0, none⟩ = false) :
    Calls Tryz.prog 131 #[.pointer (some ⟨b, 0, none⟩)] w fun e w' => e = .returned (.tuple #[]) ∧ w' = w.setCell ⟨b, 0, none⟩ (.pointer (some ⟨b, 0, none⟩)) := by
  obtain ⟨j, hj, hjs⟩ := Option.map_eq_some_iff.1 infoB
  have h1 := Lib.run_to_unsafe (P := Tryz.prog) w ⟨b, 0, none⟩ Tryz.underlying97 Tryz.underlying227 hj (by rw [hjs]; decide) hsh (Nat.zero_lt_succ 1)
  have h2 := Lib.run_from_unsafe (P := Tryz.prog) w ⟨b, 0, none⟩ Tryz.underlying227 Tryz.underlying97 hj hsh liesW
  have hne := fun W : World => Lib.run_neq_ptr_same (P := Tryz.prog) W ⟨b, 0, none⟩ Tryz.underlying97 hj
  clear hj hjs hsh
  go_enter Tryz.func131, Tryz.ntmps131
  go_wp2
  rw [run_callFunc_extern Tryz.func163 (by kernel_rfl) (by kernel_rfl) (by kernel_rfl) (e := Extern.AbiNoEscape.same) (by kernel_rfl)]
  rw [Lib.run_noEscape]
  simp only [Result.andThen]
  rw [Oper.upon_value]
  go_wp2
  go_end0
  exact ⟨rfl, rfl⟩
/-- Blocks that are no writer's stay. -/
def KeepsW (w w' : World) : Prop := ∀ (k : Nat) (cs : Array Value) (t : TypeId), w.heap[k]? = some (Obj.cells cs t) → t ≠ 5 → t ≠ 102 → w'.heap[k]? = some (Obj.cells cs t)
theorem KeepsW.refl (w : World) : KeepsW w w := fun _ _ _ h _ _ => h
theorem KeepsW.trans {a b c : World} (h : KeepsW a b) (k : KeepsW b c) : KeepsW a c := fun i cs t hi n1 n2 => k i cs t (h i cs t hi n1 n2) n1 n2
/-- What a writer in block b does to memory. -/
structure Wrt (b : Nat) (w w' : World) : Prop where
  below : Below b w w'
  keeps : KeepsW w w'
theorem Wrt.refl (b : Nat) (w : World) : Wrt b w w := ⟨.refl _ _, .refl _⟩
theorem Wrt.trans {b : Nat} {w1 w2 w3 : World} (h : Wrt b w1 w2) (k : Wrt b w2 w3) : Wrt b w1 w3 := ⟨h.below.trans k.below, h.keeps.trans k.keeps⟩
theorem Wrt.of {b : Nat} {w w' : World} (h : Fresh w w') (hb : b ≤ w.heap.size) : Wrt b w w' := ⟨Below.mono h hb, fun _ _ _ hk _ _ => h.at hk⟩
theorem copyW_any (b : Nat) (l : List UInt8) (w : World) (h : BldW b l w) :
    Calls Tryz.prog 131 #[.pointer (some ⟨b, 0, none⟩)] w fun e w' => e = .returned (.tuple #[]) ∧ (Lib.BuilderAt 102 5 b b (.pointer (some ⟨b, 0, none⟩)) (Lib.byteCells l) w' ∧ Wrt b w w') := by
  rcases h with h | h
  · obtain ⟨hB, v, hbk, _⟩ := id h
    refine (copyW_fresh b w h.cell0 h.shape h.frozen0).mono ?_
    rintro e w' ⟨rfl, rfl⟩
    refine ⟨rfl, h.used _, (Below.refl b w).setCell (p := ⟨b, 0, none⟩) h.1 _, fun k cs t hk _ h2 => at_off hk (fun e => ?_) _⟩
    subst e
    rw [hbk] at hk
    cases hk
    exact h2 rfl
  · refine (copy_used b w h.cell0).mono ?_
    rintro e w' ⟨rfl, rfl⟩
    exact ⟨rfl, h, .refl _ _⟩
set_option maxHeartbeats 1000000 in
theorem writeW_any (b : Nat) (l : List UInt8) (s : ByteArray) (w : World) (h : BldW b l w) (hlen : l.length + s.size ≤ 140737488355328) :
    Calls Tryz.prog 89 #[.pointer (some ⟨b, 0, none⟩), .string s] w fun e w' => e = .returned (.tuple #[.int .i64 s.size, .nilIface]) ∧ BldW b (l ++ s.data.toList) w' ∧ Wrt b w w' := by
  have hBw : b ≤ w.heap.size := Nat.le_of_lt h.lt
  obtain ⟨i0, hi, hz0, hz1, hz2⟩ := info_parts info5
  have HC := Lib.hid (copyW_any b l w h)
  have hl : (Lib.byteCells l).length = l.length := bytes_len l
  clear h
  go_enter Tryz.func89, Tryz.ntmps89
  go_wp2_with (fail)
  refine HC.out.mono ?_
  rintro e w1 ⟨rfl, h1, hb1, hk1⟩
  have HK1 := Lib.hid hk1
  obtain ⟨hB, v, hbk, hown, hne⟩ := h1
  have c0 : w1.cell? ⟨b, 0, none⟩ = some (.pointer (some ⟨b, 0, none⟩)) := by rw [Lib.cell_of_heap hbk]; rfl
  have c1 : w1.cell? ⟨b, 1, none⟩ = some v := by rw [Lib.cell_of_heap hbk]; rfl
  have hsz := hb1.size
  clear hk1
  go_wp2_with (at_builtin; refine Lib.wpList_append_own_string _ rfl _ _ 98 9 rfl b 5 i0 Tryz.underlying98 Tryz.underlying9 hi hz0 hz1 hz2 _ _ _ rfl hown s rfl ?c3 ?c4 ?c5 ?_)
  case c3 => unfold maxLen; omega
  case c4 => omega
  case c5 => omega
  intro v' w2 hown' hgrow _
  have hlt : b < w1.heap.size := lt_of_at hbk
  have hb2 : w2.heap[b]? = some (.cells #[.pointer (some ⟨b, 0, none⟩), v] 102 (0, 0)) := by
    rw [hgrow.block b hlt (fun e => hne e.symm)]
    exact hbk
  have HK2 : Hid (∀ u, KeepsW w (w2.setCell ⟨b, 1, none⟩ u)) := fun u k cs t hk n1 n2 => by
    have hk := HK1.out k cs t hk n1 n2
    have hkb : k ≠ b := fun e => by
      subst e
      rw [hbk] at hk
      cases hk
      exact n2 rfl
    refine at_off ((hgrow.block k (lt_of_at hk) (fun e => ?_)).trans hk) hkb _
    rcases hown.2 with ⟨rfl, _⟩ | ⟨g, cap, cur, rfl, _, hg, _⟩
    · cases e
    · have : k = g := by simpa [Value.ownBlock] using e
      subst this
      rw [hg] at hk
      cases hk
      exact n1 rfl
  have d0 : w2.cell? ⟨b, 0, none⟩ = some (.pointer (some ⟨b, 0, none⟩)) := by rw [Lib.cell_of_heap hb2]; rfl
  have d1 : w2.cell? ⟨b, 1, none⟩ = some v := by rw [Lib.cell_of_heap hb2]; rfl
  have f1 : w2.frozen? ⟨b, 1, none⟩ = false := Lib.frozen_of_heap hb2 1
  obtain ⟨ao, n', cap, rfl⟩ : ∃ ao n' cap, v' = .slice ao n' cap := by
    rcases hown'.2 with ⟨hv, _⟩ | ⟨g, cap, cur, hv, _⟩
    · exact ⟨_, _, _, hv⟩
    · exact ⟨_, _, _, hv⟩
  go_wp2
  go_ret2
  refine ⟨rfl, .inr ?_, ⟨?_, HK2.out _⟩⟩
  · refine Lib.BuilderAt.put (T := 102) (e := 5) hB hb2 (bs' := Lib.byteCells (l ++ s.data.toList)) ?_ (by decide)
    have := hown'
    rw [str_cells, bytes_app] at this
    rw [bytes_len, List.length_append]
    rw [← Lib.size_eq]
    exact this
  · exact (hb1.grown hgrow (by omega) (fun k hk => (hown.lt k hk).1)).setCell (p := ⟨b, 1, none⟩) hB _
theorem bldW_new (w : World) : BldW w.heap.size [] (w.alloc (.cells #[.pointer none, .slice none 0 0] 102)) := Lib.fresh_isBuilder _ _ w
/-- What is fresh in memory that isn't the writer's leaves it as it is. -/
theorem BldW.fresh {b : Nat} {l : List UInt8} {w w' : World} (h : BldW b l w) (f : Fresh w w') : BldW b l w' := by
  have key : ∀ p, Lib.BuilderAt 102 5 b b p (Lib.byteCells l) w → Lib.BuilderAt 102 5 b b p (Lib.byteCells l) w' := fun p h => by
    obtain ⟨hB, v, hbk, hown, hne⟩ := h
    refine ⟨hB, v, f.at hbk, ?_, hne⟩
    refine World.ownsRow.kept (row := none) hown ⟨f.os, f.tape, f.output, f.size, fun k hk _ => f.block k hk⟩ ?_
    rcases h' : v.ownBlock with _ | g
    · exact .inl rfl
    · exact .inr (by simp)
  rcases h with h | h
  · exact .inl (key _ h)
  · exact .inr (key _ h)
theorem cellsByte : Tryz.prog.cellsOf 5 = 1 := by kernel_rfl
set_option maxHeartbeats 1000000 in
theorem strW_any (b : Nat) (l : List UInt8) (w : World) (h : BldW b l w) (h0 : l ≠ []) :
    Calls Tryz.prog 48 #[.pointer (some ⟨b, 0, none⟩)] w fun e w' => e = .returned (.string (tx l)) ∧ Below b w w' := by
  obtain ⟨p, hB, v, hbk, hown, hne⟩ : ∃ p, Lib.BuilderAt 102 5 b b p (Lib.byteCells l) w := by
    rcases h with h | h
    · exact ⟨_, h⟩
    · exact ⟨_, h⟩
  have hl0 : l.length ≠ 0 := by simpa using h0
  rw [Lib.byteCells_length] at hown
  obtain ⟨g, cap, cur, rfl, hbg, hg, hnc, hcm, hcs, htake⟩ : ∃ g cap cur, v = .slice (some ⟨g, 0, none⟩) l.length cap ∧ b ≤ g ∧ w.heap[g]? = some (.cells cur 5 (0, 0)) ∧ l.length ≤ cap ∧ cap ≤ maxLen ∧ cur.size = cap * 1 ∧ cur.toList.take (l.length * 1) = Lib.byteCells l := by
    rcases hown.2 with ⟨_, hz⟩ | ⟨g, cap, cur, hv, r⟩
    · exact absurd hz hl0
    · exact ⟨g, cap, cur, hv, r⟩
  have c1 : w.drew.cell? ⟨b, 1, none⟩ = some (.slice (some ⟨g, 0, none⟩) l.length cap) := by
    have : w.drew.heap[b]? = some (.cells #[p, .slice (some ⟨g, 0, none⟩) l.length cap] 102 (0, 0)) := hbk
    rw [Lib.cell_of_heap this]; rfl
  have hSD : (Builtin.unsafeSliceData_ #[98] 182 #[.slice (some ⟨g, 0, none⟩) l.length cap]).run Tryz.prog w.drew = .ok (.pointer (some ⟨g, 0, none⟩)) w.drew :=
    Lib.run_unsafeSliceData_row _ _ _ _ _ _ (by omega)
  have hUS : (Builtin.unsafeString_ #[182, 3] 9 #[.pointer (some ⟨g, 0, none⟩), .int .i64 l.length]).run Tryz.prog w.drew = .ok (.string ⟨l.toArray⟩) (w.drew.freeze ⟨g, 0, none⟩ l.length) := by
    refine Lib.run_unsafeString_row w.drew 182 3 9 5 Tryz.underlying182 cellsByte g cur.size (by have hg' : w.drew.heap[g]? = some (.cells cur 5 (0, 0)) := hg; simp [World.shape?, hg']) l h0 (by omega) (by unfold maxLen at hcm; omega) ?_
    intro j x hx
    have := hown.cells (g := g) rfl j (.int .u8 x.toNat) (by simp [Lib.byteCells, hx])
    exact this
  clear hown htake hcs hnc hcm h0 hl0 h
  have mixed : Tryz.prog.follows .mixedOrders = true := by kernel_rfl
  go_enter Tryz.func48, Tryz.ntmps48
  go_wp2
  go_region_o
  all_goals (go_wp2; go_ret; exact ⟨rfl, Lib.below_freeze (Below.drew (Below.refl b w)) (p := ⟨g, 0, none⟩) hbg _⟩)
end Go.Proofs.YtldncgelghcjeaaGreatDoor.K
namespace Go.Proofs.YtldncgelghcjeaaGreatDoor.K
open Go.ChangeShapes Go.WideShapes Go.ChangeAt Go.RowKit
set_option maxRecDepth 100000

theorem name_tx (s : ByteArray) (w : World) (hs : s.size ≤ maxLen) : Calls Tryz.prog 122 #[.string s] w fun e w' => e = .returned (.bool (nameB s.data.toList)) ∧ Fresh w w' := by
  have := name_any s.data.toList w (by rw [← Lib.size_eq]; exact hs)
  rwa [tx_of] at this
set_option maxHeartbeats 2000000 in
theorem fault_any (p : P1) (ahead : ByteArray) (w : World) (hp : p.Fit maxLen) :
    Calls Tryz.prog 160 #[p.val, .string ahead] w fun e w' => e = .returned (.int .i64 (fE p ahead)) ∧ Fresh w w' := by
  obtain ⟨file, name, image, r⟩ := p
  have HFI := Lib.hid (fun W => file_any file W hp.file)
  have HNM := Lib.hid (fun W => name_tx name W hp.name)
  have HIM := Lib.hid (fun W => image_any image W hp.image)
  have HE : Hid (fE ⟨file, name, image, r⟩ ahead = if fileB file = true ∧ nameB name.data.toList = true then (if imgB image.data.toList = true ∧ leS file ahead = false then (if 2 < r then 7 else 0) else 6) else 13) := rfl
  have HLE : Hid (leS file ahead = (Op.bytesLess file.toList ahead.toList || file.toList == ahead.toList)) := rfl
  have hr0 : 0 ≤ r := hp.r0
  have hr1 : r ≤ 255 := hp.r1
  have HA := Lib.hid (at_new w (.cells #[.string file, .string name, .string image, .int .u8 r] 154))
  have HF0 := Lib.hid ((Fresh.refl w).alloc (.cells #[.string file, .string name, .string image, .int .u8 r] 154))
  dsimp only [P1.val]
  clear hp
  generalize fE ⟨file, name, image, r⟩ ahead = E at *
  generalize leS file ahead = L at *
  generalize hx1 : Op.bytesLess file.toList ahead.toList = x1 at *
  generalize hx2 : (file.toList == ahead.toList) = x2 at *
  cases hf : fileB file with
  | false =>
    rw [hf] at HFI
    have HR : Hid (E = 13) := by rw [Hid, HE.out, if_neg (by rw [hf]; simp)]
    clear HE hf hx1 hx2
    go_enter Tryz.func160, Tryz.ntmps160
    go_wp2_with (fail)
    refine (HFI.out _).mono ?_
    rintro e w1 ⟨rfl, rfl⟩
    go_wp2
    go_ret
    exact ⟨ret_int HR.out.symm, HF0.out⟩
  | true =>
    rw [hf] at HFI
    cases hn : nameB name.data.toList with
    | false =>
      rw [hn] at HNM
      have HR : Hid (E = 13) := by rw [Hid, HE.out, if_neg (by rw [hn]; simp)]
      clear HE hf hn hx1 hx2
      go_enter Tryz.func160, Tryz.ntmps160
      go_wp2_with (fail)
      refine (HFI.out _).mono ?_
      rintro e w1 ⟨rfl, rfl⟩
      go_wp2_with (fail)
      refine (HNM.out _).mono ?_
      rintro e w1 ⟨rfl, hf⟩
      have HF := Lib.hid (HF0.out.trans hf)
      clear hf
      go_wp2
      go_ret
      exact ⟨ret_int HR.out.symm, HF.out⟩
    | true =>
      rw [hn] at HNM
      have HE2 : Hid (E = if imgB image.data.toList = true ∧ L = false then (if 2 < r then 7 else 0) else 6) := by rw [Hid, HE.out, if_pos ⟨hf, hn⟩]
      clear HE hf hn
      go_enter Tryz.func160, Tryz.ntmps160
      go_wp2_with (fail)
      refine (HFI.out _).mono ?_
      rintro e w1 ⟨rfl, rfl⟩
      go_wp2_with (fail)
      refine (HNM.out _).mono ?_
      rintro e w1 ⟨rfl, hf⟩
      obtain ⟨⟨q0, q1, q2, q3⟩, _⟩ := p1_box (p := ⟨file, name, image, r⟩) (hf.at HA.out)
      have HF := Lib.hid (HF0.out.trans hf)
      clear hf HA HF0
      obtain ⟨b, hb⟩ : ∃ b, b = w.heap.size := ⟨_, rfl⟩
      rw [← hb] at q0 q1 q2 q3 ⊢
      clear hb
      go_wp2_with (fail)
      refine (HIM.out _).mono ?_
      rintro e w2 ⟨rfl, rfl⟩
      cases hi : imgB image.data.toList with
      | false =>
        have HR : Hid (E = 6) := by rw [Hid, HE2.out, if_neg (by rw [hi]; simp)]
        clear HE2 hi
        go_wp2
        go_ret
        exact ⟨ret_int HR.out.symm, HF.out⟩
      | true =>
        have HE3 : Hid (E = if L = false then (if 2 < r then 7 else 0) else 6) := by rw [Hid, HE2.out]; simp only [hi, true_and]
        clear HE2 hi
        cases hl : (x1 || x2) with
        | true =>
          have HR : Hid (E = 6) := by rw [Hid, HE3.out, HLE.out, hl]; simp
          clear HE3 HLE
          cases x1 <;> cases x2 <;> simp at hl <;> (go_wp2; go_ret; exact ⟨ret_int HR.out.symm, HF.out⟩)
        | false =>
          have HE4 : Hid (E = if 2 < r then 7 else 0) := by rw [Hid, HE3.out, HLE.out, hl]; simp
          clear HE3 HLE
          simp only [Bool.or_eq_false_iff] at hl
          obtain ⟨rfl, rfl⟩ := hl
          by_cases h2 : 2 < r
          · have HR : Hid (E = 7) := by rw [Hid, HE4.out, if_pos h2]
            clear HE4
            go_wp2
            go_ret
            exact ⟨ret_int HR.out.symm, HF.out⟩
          · have HR : Hid (E = 0) := by rw [Hid, HE4.out, if_neg h2]
            clear HE4
            go_wp2
            go_ret
            exact ⟨ret_int HR.out.symm, HF.out⟩
set_option maxHeartbeats 2000000 in
theorem check_any (seq : Int) (a : Option Addr) (l : List P1) (c : Nat) (w : World) (h : RowAt w a (p1s l)) (hf : ∀ p ∈ l, p.Fit maxLen) :
    Calls Tryz.prog 127 #[st1 seq a l.length c] w fun e w' => e = .returned (.int .i64 (chk1 l)) ∧ Fresh w w' := by
  have HROW := Lib.hid h
  have HFT := Lib.hid hf
  have HC : Hid (chk1 l = if 1024 < l.length then 18 else chkF (aheadOf l 0) (l.drop 0)) := rfl
  have HA := Lib.hid (at_new w (.cells #[.int .u32 seq, .slice a l.length c] 63))
  have HF0 := Lib.hid ((Fresh.refl w).alloc (.cells #[.int .u32 seq, .slice a l.length c] 63))
  dsimp only [st1]
  clear h hf
  generalize chk1 l = E at *
  by_cases hm : 1024 < l.length
  · have HR : Hid (E = 18) := by rw [Hid, HC.out, if_pos hm]
    clear HC
    go_enter Tryz.func127, Tryz.ntmps127
    go_wp2
    all_goals try (exfalso; omega)
    go_ret
    exact ⟨ret_int HR.out.symm, HF0.out⟩
  · have HC2 : Hid (E = chkF (aheadOf l 0) (l.drop 0)) := by rw [Hid, HC.out, if_neg hm]
    clear HC
    go_enter Tryz.func127, Tryz.ntmps127
    go_wp2
    all_goals try (exfalso; omega)
    generalize w.alloc (.cells #[.int .u32 seq, .slice a l.length c] 63) = W0 at *
    go_loopw [3, 14] (fun a3 a14 wr => ∃ (k : Nat), a14 = .int .i64 (k : Int) ∧ a3 = .string (aheadOf l k) ∧ k ≤ l.length ∧ Hid (E = chkF (aheadOf l k) (l.drop k)) ∧ Hid (Fresh W0 wr)) (fun _ a14 _ => l.length - (intOf a14).toNat)
    case atStart => exact ⟨0, rfl, rfl, Nat.zero_le _, HC2.out, Fresh.refl _⟩
    case round =>
      obtain ⟨k, rfl, rfl, hk, HE, HF⟩ := hrel
      by_cases hlt : k < l.length
      · obtain ⟨g, o1, rfl, hc⟩ := p1_form ((HROW.out.move HF0.out).move HF.out) hlt
        obtain ⟨c0, c1, c2, c3⟩ := hc k hlt
        have HFA := Lib.hid (fun W => fault_any l[k] (aheadOf l k) W (HFT.out _ (List.getElem_mem hlt)))
        have HSTEP : Hid (E = if fE l[k] (aheadOf l k) = 0 then chkF l[k].file (l.drop (k + 1)) else fE l[k] (aheadOf l k)) := HE.out.trans (chkF_drop hlt _)
        have HAH := Lib.hid (aheadOf_succ l k hlt)
        clear hc
        generalize fE l[k] (aheadOf l k) = F at *
        generalize aheadOf l k = ah at *
        generalize l[k] = p at *
        obtain ⟨file, name, image, r⟩ := p
        dsimp only [P1.val] at *
        have HP := Lib.hid (at_new wr (.cells #[.string file, .string name, .string image, .int .u8 r] 154))
        have HF1 := Lib.hid ((Fresh.refl wr).alloc (.cells #[.string file, .string name, .string image, .int .u8 r] 154))
        by_cases hF : F = 0
        · subst hF
          have HN : Hid (E = chkF file (l.drop (k + 1))) := by rw [Hid, HSTEP.out, if_pos rfl]
          clear HSTEP
          go_wp2_with (fail)
          all_goals try (exfalso; omega)
          refine (HFA.out _).mono ?_
          rintro e w1 ⟨rfl, hf⟩
          obtain ⟨⟨q0, q1, q2, q3⟩, _⟩ := p1_box (p := ⟨file, name, image, r⟩) (hf.at HP.out)
          have HF2 := Lib.hid ((HF.out.trans HF1.out).trans hf)
          clear hf
          go_wp2
          go_roundw
          case rel => exact ⟨k + 1, by simp, by rw [HAH.out], by omega, by rw [HAH.out]; exact HN.out, HF2.out⟩
          case measure => simp [intOf]; omega
        · have HR : Hid (E = F) := by rw [Hid, HSTEP.out, if_neg hF]
          have e0 : (F == 0) = false := by rw [beq_eq_false_iff_ne]; exact hF
          clear HSTEP
          go_wp2_with (fail)
          all_goals try (exfalso; omega)
          refine (HFA.out _).mono ?_
          rintro e w1 ⟨rfl, hf⟩
          have HF2 := Lib.hid ((HF.out.trans HF1.out).trans hf)
          clear hf
          go_wp2
          all_goals try (exfalso; omega)
          go_ret
          exact ⟨ret_int HR.out.symm, HF0.out.trans HF2.out⟩
      · obtain rfl : k = l.length := by omega
        have HR : Hid (E = 0) := by rw [Hid, HE.out, List.drop_of_length_le (Nat.le_refl _)]; rfl
        go_wp2
        all_goals try (exfalso; omega)
        go_ret
        exact ⟨ret_int HR.out.symm, HF0.out.trans HF.out⟩
end Go.Proofs.YtldncgelghcjeaaGreatDoor.K
namespace Go.Proofs.YtldncgelghcjeaaGreatDoor.K
open Go.ChangeShapes Go.WideShapes Go.ChangeAt Go.RowKit
set_option maxRecDepth 100000

theorem text1_any (s : ByteArray) (w : World) (h : s.size ≤ 4096) : Calls Tryz.prog 161 #[.string s] w fun e w' => e = .returned (.string (tx (txtL s))) ∧ Fresh w w' := by
  have HT := Lib.hid (fun W => text_ok s W h)
  rw [txt_tx] at HT
  go_enter Tryz.func161, Tryz.ntmps161
  go_wp2_with (fail)
  refine (HT.out _).mono ?_
  rintro e w' ⟨rfl, hg⟩
  go_wp2
  go_ret
  exact ⟨rfl, hg⟩
theorem add_run (a b c : ByteArray) (h : a.size + b.size ≤ 9223372036854775807) (hc : a ++ b = c) (W : World) : (Op.stringOp .add a b).run Tryz.prog W = .ok (.string c) W := by
  rw [run_string_add_sum W _ _ h, hc]
theorem wrap_byte {r : Int} (h0 : 0 ≤ r) (h1 : r ≤ 255) : IntKind.u64.wrap r = r := by
  simp [IntKind.wrap, IntKind.signed, IntKind.bits]; omega
theorem pod_parts (p : P1) : tx (txtL p.file) ++ tx (txtL p.name) ++ tx (txtL p.image) ++ beS 1 p.r.toNat = tx (podL p) := by
  rw [beS_tx, tx_app, tx_app, tx_app, podL]; simp only [List.append_assoc]
set_option maxHeartbeats 4000000 in
theorem podB_any (p : P1) (w : World) (hp : p.Fit 4096) : Calls Tryz.prog 128 #[p.val] w fun e w' => e = .returned (.string (tx (podL p))) ∧ Fresh w w' := by
  have HPP := Lib.hid (pod_parts p)
  obtain ⟨file, name, image, r⟩ := p
  have H1 := Lib.hid (fun W => text1_any file W hp.file)
  have H2 := Lib.hid (fun W => text1_any name W hp.name)
  have H3 := Lib.hid (fun W => text1_any image W hp.image)
  have hr0 : 0 ≤ r := hp.r0
  have hr1 : r ≤ 255 := hp.r1
  have H4 := Lib.hid (fun W => put_yes 1 r W (by decide) hr0 (by omega))
  have z1 : (tx (txtL file)).size ≤ 5000 := by rw [tx_size, txtL_len]; have := hp.file; dsimp only at this; omega
  have z2 : (tx (txtL name)).size ≤ 5000 := by rw [tx_size, txtL_len]; have := hp.name; dsimp only at this; omega
  have z3 : (tx (txtL image)).size ≤ 5000 := by rw [tx_size, txtL_len]; have := hp.image; dsimp only at this; omega
  have z4 : (beS 1 r.toNat).size = 1 := beS_size _ _
  have hw := wrap_byte hr0 hr1
  dsimp only [P1.val] at *
  rw [show (1 : Int).toNat = 1 from rfl] at H4
  clear hp
  generalize tx (txtL file) = A at *
  generalize tx (txtL name) = B at *
  generalize tx (txtL image) = C at *
  generalize beS 1 r.toNat = D at *
  rw [← HPP.out]
  have s1 : (A ++ B).size ≤ 10000 := by rw [ByteArray.size_append]; omega
  have s2 : (A ++ B ++ C).size ≤ 15000 := by rw [ByteArray.size_append]; omega
  have a1 := add_run A B _ (by omega) rfl
  have a2 := add_run (A ++ B) C _ (by omega) rfl
  have a3 := add_run (A ++ B ++ C) D _ (by omega) rfl
  generalize A ++ B ++ C ++ D = ABCD at *
  generalize A ++ B ++ C = ABC at *
  generalize A ++ B = AB at *
  have HA := Lib.hid (at_new w (.cells #[.string file, .string name, .string image, .int .u8 r] 154))
  have HF0 := Lib.hid ((Fresh.refl w).alloc (.cells #[.string file, .string name, .string image, .int .u8 r] 154))
  go_enter Tryz.func128, Tryz.ntmps128
  go_wp2_with (fail)
  generalize w.alloc (.cells #[.string file, .string name, .string image, .int .u8 r] 154) = W1 at *
  obtain ⟨z, hz⟩ : ∃ z, z = w.heap.size := ⟨_, rfl⟩
  rw [← hz] at HA ⊢
  clear hz
  have HKP : Hid (∀ W, Fresh W1 W → W.cell? ⟨z, 0, none⟩ = some (.string file) ∧ W.cell? ⟨z, 1, none⟩ = some (.string name) ∧ W.cell? ⟨z, 2, none⟩ = some (.string image) ∧ W.cell? ⟨z, 3, none⟩ = some (.int .u8 r)) := fun W f =>
    (p1_box (p := ⟨file, name, image, r⟩) (f.at HA.out)).1
  obtain ⟨k0, k1, k2, k3⟩ := HKP.out W1 (.refl _)
  have HK : Hid (Fresh W1 W1.drew) := (Fresh.refl W1).drew
  go_region_held3 (fun w' => (w'.cell? ⟨z, 0, none⟩ = some (.string file) ∧ w'.cell? ⟨z, 1, none⟩ = some (.string name) ∧ w'.cell? ⟨z, 2, none⟩ = some (.string image) ∧ w'.cell? ⟨z, 3, none⟩ = some (.int .u8 r))) (go_keep)
    (first
      | (go_at_call 161; (with_reducible refine (H1.out _).mono ?_); rintro e W2 ⟨rfl, hf⟩; have HK := Lib.hid (HK.out.trans hf); obtain ⟨k0, k1, k2, k3⟩ := HKP.out _ HK.out; clear hf)
      | (go_at_call 161; (with_reducible refine (H2.out _).mono ?_); rintro e W2 ⟨rfl, hf⟩; have HK := Lib.hid (HK.out.trans hf); obtain ⟨k0, k1, k2, k3⟩ := HKP.out _ HK.out; clear hf)
      | (go_at_call 161; (with_reducible refine (H3.out _).mono ?_); rintro e W2 ⟨rfl, hf⟩; have HK := Lib.hid (HK.out.trans hf); obtain ⟨k0, k1, k2, k3⟩ := HKP.out _ HK.out; clear hf)
      | (go_at_call 90; (with_reducible refine (H4.out _).mono ?_); rintro e W2 ⟨rfl, hf⟩; have HK := Lib.hid (HK.out.trans hf); obtain ⟨k0, k1, k2, k3⟩ := HKP.out _ HK.out; clear hf))
  all_goals go_wp2
  all_goals go_ret
  all_goals exact ⟨rfl, HF0.out.trans HK.out⟩
end Go.Proofs.YtldncgelghcjeaaGreatDoor.K
