/-
  The document's answer for layer 4: named.
-/
import Derived.Test.YtimcoofmemcojaaRefB
namespace Go.Proofs.Ytimcoofmemcojaa
open Go.ChangeShapes Go.WideShapes Go.ChangeAt Go.RowKit
variable {w : World}
def NamedIs (w : World) (e : Ending) (w' : World) : Prop := ∃ b, e = .returned (.bool b) ∧ Fresh w w'
theorem rd_get : ∀ (l : List RDeed) (i : Nat) (d : RDeed), l[i]? = some d → (rdCells l)[i * 4]? = some (.int .i64 d.kind) ∧ (rdCells l)[i * 4 + 1]? = some (.string d.src) ∧ (rdCells l)[i * 4 + 2]? = some (.string d.dst) ∧ (rdCells l)[i * 4 + 3]? = some (.int .i64 d.file)
  | [], _, _, h => by simp at h
  | x :: l, 0, u, h => by
    injection h with h
    subst h
    exact ⟨rfl, rfl, rfl, rfl⟩
  | x :: l, i + 1, u, h => by
    have e : rdCells (x :: l) = .int .i64 x.kind :: .string x.src :: .string x.dst :: .int .i64 x.file :: rdCells l := rfl
    rw [e, show (i + 1) * 4 = i * 4 + 1 + 1 + 1 + 1 by omega]
    simp only [List.getElem?_cons_succ]
    exact rd_get l i u h
set_option maxRecDepth 100000 in
set_option maxHeartbeats 4000000 in
theorem rnamed_any (r : RSt) (R : RLay) (i : Int) (w : World) (hn : r.now.length ≤ 900000) (hs : r.safe.length ≤ 900000) (hw : r.wait.length ≤ 900000) (hat : RAt w r R) : Calls Try.prog 41 #[rval r R, .int .i64 i] w (NamedIs w) := by
  have HNL := Lib.hid hn
  have HSL := Lib.hid hs
  have HWL := Lib.hid hw
  obtain ⟨fl, nl, sl, wl, left, steps, down⟩ := r
  obtain ⟨fa, fc, na, nc, sa, sc, wa, wc⟩ := R
  dsimp only [rval] at *
  have hf := (Fresh.refl w).alloc (.cells #[.slice fa fl.length fc, .slice na nl.length nc, .slice sa sl.length sc, .slice wa wl.length wc, .int .i64 left, .int .i64 steps, .bool down] 31)
  have HAT := Lib.hid (hat.move hf)
  have hbx : RBox (w.alloc (.cells #[.slice fa fl.length fc, .slice na nl.length nc, .slice sa sl.length sc, .slice wa wl.length wc, .int .i64 left, .int .i64 steps, .bool down] 31)) w.heap.size _ _ _ _ _ _ _ := ⟨at_new w _⟩
  obtain ⟨⟨p0, p1, p2, p3, p4, p5, p6⟩, _⟩ := hbx.cells
  have HF := Lib.hid hf
  clear hat hn hs hw hf hbx
  go_enter Try.func41, Try.ntmps41
  go_upto_region 1 with (fail)
  generalize w.alloc (.cells #[.slice fa fl.length fc, .slice na nl.length nc, .slice sa sl.length sc, .slice wa wl.length wc, .int .i64 left, .int .i64 steps, .bool down] 31) = w1 at *
  go_wp2
  go_loop [5] (fun x => ∃ k : Nat, k ≤ nl.length ∧ x = .int .i64 k) (fun x => nl.length - (intOf x).toNat)
  case atStart => exact ⟨0, Nat.zero_le _, rfl⟩
  case round =>
    obtain ⟨k, hk, rfl⟩ := hrel
    have hkb : k ≤ 900000 := by have := HNL.out; omega
    by_cases hlt : k < nl.length
    · have HLT := Lib.hid hlt
      obtain ⟨g, cap, hfe, _, hglt⟩ := World.ownsRow.form HAT.out.now (by dsimp only; omega)
      injection hfe with e1 e2 e3
      subst e1 e3
      have hget := undCells_get nl k hlt
      have g1 : w1.cell? ⟨g, k * 2 + 1, none⟩ = some (.int .i64 nl[k].2) := (World.ownsRow.cellAt HAT.out.now (k * 2 + 1) (by dsimp only; omega)).trans hget.2
      clear hget e2 hglt
      generalize nl[k].2 = v at *
      by_cases hv : v = i
      · subst hv
        go_wp2
        go_ret
        exact ⟨true, rfl, HF.out⟩
      · have hv1 : (v == i) = false := by simpa using hv
        clear hv
        go_wp2
        go_round
        case rel => exact ⟨k + 1, by have := HLT.out; omega, by go_num⟩
        case measure => simp [intOf]; have := HLT.out; omega
    · obtain rfl : k = nl.length := by omega
      clear hkb hlt hk
      go_wp2
      go_loop [6] (fun x => ∃ k : Nat, k ≤ sl.length ∧ x = .int .i64 k) (fun x => sl.length - (intOf x).toNat)
      case atStart => exact ⟨0, Nat.zero_le _, rfl⟩
      case round =>
        obtain ⟨k, hk, rfl⟩ := hrel
        have hkb : k ≤ 900000 := by have := HSL.out; omega
        by_cases hlt : k < sl.length
        · have HLT := Lib.hid hlt
          obtain ⟨g, cap, hfe, _, hglt⟩ := World.ownsRow.form HAT.out.safe (by dsimp only; omega)
          injection hfe with e1 e2 e3
          subst e1 e3
          have hget := undCells_get sl k hlt
          have g1 : w1.cell? ⟨g, k * 2 + 1, none⟩ = some (.int .i64 sl[k].2) := (World.ownsRow.cellAt HAT.out.safe (k * 2 + 1) (by dsimp only; omega)).trans hget.2
          clear hget e2 hglt
          generalize sl[k].2 = v at *
          by_cases hv : v = i
          · subst hv
            go_wp2
            go_ret
            exact ⟨true, rfl, HF.out⟩
          · have hv1 : (v == i) = false := by simpa using hv
            clear hv
            go_wp2
            go_round
            case rel => exact ⟨k + 1, by have := HLT.out; omega, by go_num⟩
            case measure => simp [intOf]; have := HLT.out; omega
        · obtain rfl : k = sl.length := by omega
          clear hkb hlt hk
          go_wp2
          go_loop [7] (fun x => ∃ k : Nat, k ≤ wl.length ∧ x = .int .i64 k) (fun x => wl.length - (intOf x).toNat)
          case atStart => exact ⟨0, Nat.zero_le _, rfl⟩
          case round =>
            obtain ⟨k, hk, rfl⟩ := hrel
            have hkb : k ≤ 900000 := by have := HWL.out; omega
            by_cases hlt : k < wl.length
            · have HLT := Lib.hid hlt
              obtain ⟨g, cap, hfe, _, hglt⟩ := World.ownsRow.form HAT.out.wait (by dsimp only; omega)
              injection hfe with e1 e2 e3
              subst e1 e3
              have hget := rd_get wl k wl[k] (List.getElem?_eq_getElem hlt)
              have g0 : w1.cell? ⟨g, k * 4, none⟩ = some (.int .i64 wl[k].kind) := (World.ownsRow.cellAt HAT.out.wait (k * 4) (by dsimp only; omega)).trans hget.1
              have g1 : w1.cell? ⟨g, k * 4 + 3, none⟩ = some (.int .i64 wl[k].file) := (World.ownsRow.cellAt HAT.out.wait (k * 4 + 3) (by dsimp only; omega)).trans hget.2.2.2
              clear hget e2 hglt
              generalize wl[k].file = v at *
              generalize wl[k].kind = kd at *
              by_cases hk0 : kd = 0
              · subst hk0
                by_cases hv : v = i
                · subst hv
                  go_wp2
                  go_ret
                  exact ⟨true, rfl, HF.out⟩
                · have hv1 : (v == i) = false := by simpa using hv
                  clear hv
                  go_wp2
                  go_round
                  case rel => exact ⟨k + 1, by have := HLT.out; omega, by go_num⟩
                  case measure => simp [intOf]; have := HLT.out; omega
              · have hv1 : (kd == 0) = false := by simpa using hk0
                clear hk0
                go_wp2
                go_round
                case rel => exact ⟨k + 1, by have := HLT.out; omega, by go_num⟩
                case measure => simp [intOf]; have := HLT.out; omega
            · obtain rfl : k = wl.length := by omega
              go_wp2
              go_ret
              exact ⟨false, rfl, HF.out⟩
end Go.Proofs.Ytimcoofmemcojaa
