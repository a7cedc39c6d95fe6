/-
  Few pods, and small ones, all together: what bosunlaw19.Small says (printed by gensmall3.py.txt out of small3.frame.txt).
  Are two states of version 3 alike, by package ckthree?
  The pod of a file, by package ckthree.
  Is a pod the first of its File? bosunlaw19.first.
  CkthreeCodes: the contracts by what a state holds; what the law's region 3 leaves, as puts.
-/
import Derived.Test.YtldncgelghcjeaaGreatDoorCat26
import Derived.Test.YtldncgelghcjeaaGreatDoorCat28
import Derived.Test.YtldncgelghcjeaaGreatDoorCat21
import Derived.Test.YtldncgelghcjeaaGreatDoorCat12
import Derived.Test.YtldncgelghcjeaaGreatDoorCat20
import Derived.Test.YtldncgelghcjeaaGreatDoorCat06
import Derived.Deep.QuietTactic
import Derived.BigQuiet
import Derived.Deep.RegionHeld3
set_option linter.unusedSimpArgs false
set_option linter.unusedVariables false
namespace Go.Proofs.YtldncgelghcjeaaGreatDoor.K
open Go.ChangeShapes Go.WideShapes Go.ChangeAt Go.RowKit
set_option maxRecDepth 100000
set_option linter.unusedSimpArgs false

def sm3 : Nat → List P3 → Bool
  | _, [] => true
  | n, p :: l => if 40000 < n + (10 + p.file.size + weight p.pd) then false else sm3 (n + (10 + p.file.size + weight p.pd)) l
theorem sm3_drop {l : List P3} {k : Nat} (h : k < l.length) (n : Nat) : sm3 n (l.drop k) = if 40000 < n + (10 + l[k].file.size + weight l[k].pd) then false else sm3 (n + (10 + l[k].file.size + weight l[k].pd)) (l.drop (k + 1)) := by
  rw [List.drop_eq_getElem_cons h, sm3]
theorem weightA_up : ∀ (l : List Ct) (n : Nat), weightA n l ≤ n + 20001
  | [], n => by rw [weightA]; omega
  | c :: l, n => by
    rw [weightA]
    split
    · omega
    · rename_i h
      have : ∀ (l : List Ct) (m : Nat), m ≤ 20000 → weightA m l ≤ 20001 := by
        intro l
        induction l with
        | nil => intro m hm; rw [weightA]; omega
        | cons d l ih =>
          intro m _
          rw [weightA]
          split
          · omega
          · exact ih _ (by omega)
      have := this l _ (Nat.le_of_not_lt h)
      omega
set_option maxHeartbeats 8000000 in
theorem small3_any (seq : Int) (a : Option Addr) (l : List M3) (c : Nat) (w : World) (h : Row3 w a l) (hlo : ∀ m ∈ l, m.p.Lo) (hl : l.length ≤ 1048576) :
    Calls Tryz.prog 9 #[st3 seq a l.length c] w fun e w' => e = .returned (.bool (sm3 0 (pods3 l))) ∧ Fresh w w' := by
  have HA := Lib.hid (at_new w (.cells #[.int .u64 seq, .slice a l.length c] 25))
  have HF0 := Lib.hid ((Fresh.refl w).alloc (.cells #[.int .u64 seq, .slice a l.length c] 25))
  have HROW := Lib.hid (h.move HF0.out)
  have HLO := Lib.hid hlo
  have HC : Hid (sm3 0 (pods3 l) = sm3 0 ((pods3 l).drop 0)) := rfl
  have hpl : (pods3 l).length = l.length := by simp [pods3]
  generalize sm3 0 (pods3 l) = E at *
  dsimp only [st3] at *
  clear h hlo
  go_enter Tryz.func9, Tryz.ntmps9
  go_wp2
  generalize w.alloc (.cells #[.int .u64 seq, .slice a l.length c] 25) = W1 at *
  obtain ⟨z, hz⟩ : ∃ z, z = w.heap.size := ⟨_, rfl⟩
  rw [← hz] at HA ⊢
  clear hz
  go_loopw [3, 9] (fun a3 a9 wr => ∃ (k n : Nat), a9 = .int .i64 (k : Int) ∧ a3 = .int .i64 (n : Int) ∧ k ≤ l.length ∧ n ≤ 40000 ∧ Hid (E = sm3 n ((pods3 l).drop k)) ∧ Hid (Fresh W1 wr)) (fun _ a9 _ => l.length - (intOf a9).toNat)
  case atStart => exact ⟨0, 0, rfl, rfl, Nat.zero_le _, by omega, HC.out, .refl _⟩
  case round =>
  clear HC
  obtain ⟨k, n, rfl, rfl, hk, hn, HE, HF⟩ := hrel
  by_cases hlt : k < l.length
  case pos =>
    have hR := HROW.out.move HF.out
    obtain ⟨gb, o1, rfl, hc⟩ := m3_form hR.row hlt
    obtain ⟨c0, c1, c2, c3, c4, c5, c6⟩ := hc k hlt
    have hkp : k < (pods3 l).length := by omega
    have hpk := pods3_get hlt hkp
    have HLK := Lib.hid (HLO.out _ (List.getElem_mem hlt))
    have HIN := Lib.hid (hR.ins _ (List.getElem_mem hlt))
    have HST : Hid (E = if 40000 < n + (10 + l[k].p.file.size + weight l[k].p.pd) then false else sm3 (n + (10 + l[k].p.file.size + weight l[k].p.pd)) ((pods3 l).drop (k + 1))) := by
      have := HE.out.trans (sm3_drop hkp n)
      rw [hpk] at this; exact this
    clear hc hR hkp hpk HE
    generalize l[k] = m at *
    have HLOW := Lib.hid HLK.out.low
    have hfile := HLK.out.file
    have hname := HLK.out.name
    have hns := HLK.out.ns
    obtain ⟨file, name, ns, r, g, hb, ca, cc, cs⟩ := m
    simp only [M3.p, PM.pd] at hfile hname hns HST
    have hw : weight (PM.pd ⟨name, ns, r, g, hb, ca, cc, cs⟩) ≤ 2117153 := by
      have := weightA_up (PM.pd ⟨name, ns, r, g, hb, ca, cc, cs⟩).cs (name.size + ns.size)
      have e : weight (PM.pd ⟨name, ns, r, g, hb, ca, cc, cs⟩) = weightA (name.size + ns.size) (PM.pd ⟨name, ns, r, g, hb, ca, cc, cs⟩).cs := rfl
      rw [e]; omega
    have hWV : PM.val ⟨name, ns, r, g, hb, ca, cc, cs⟩ = Value.agg #[.string name, .string ns, .int .i64 r, .int .i64 g, .bool hb, .slice ca cs.length cc] := rfl
    have HST : Hid (E = if 40000 < n + (10 + file.size + weight (PM.pd ⟨name, ns, r, g, hb, ca, cc, cs⟩)) then false else sm3 (n + (10 + file.size + weight (PM.pd ⟨name, ns, r, g, hb, ca, cc, cs⟩))) ((pods3 l).drop (k + 1))) := HST.out
    have HW : Hid (∀ W, Fresh wr W → Calls Tryz.prog 40 #[.agg #[.string name, .string ns, .int .i64 r, .int .i64 g, .bool hb, .slice ca cs.length cc]] W fun e w' => e = .returned (.int .i64 (weight (PM.pd ⟨name, ns, r, g, hb, ca, cc, cs⟩) : Int)) ∧ Fresh W w') := fun W f => by
      have := weight_any ⟨name, ns, r, g, hb, ca, cc, cs⟩ W (HIN.out.move f) HLOW.out
      rw [hWV] at this; exact this
    clear hWV HIN HLOW HLK
    dsimp only at *
    generalize weight (PM.pd ⟨name, ns, r, g, hb, ca, cc, cs⟩) = K at *
    have HP := Lib.hid (at_new wr (.cells #[.string file, .string name, .string ns, .int .i64 r, .int .i64 g, .bool hb, .slice ca cs.length cc] 93))
    have HF1 := Lib.hid ((Fresh.refl wr).alloc (.cells #[.string file, .string name, .string ns, .int .i64 r, .int .i64 g, .bool hb, .slice ca cs.length cc] 93))
    have w1 : IntKind.i64.wrap (10 + (file.size : Int)) = 10 + (file.size : Int) := IntWalk.i64_in _ (by omega)
    have w2 : IntKind.i64.wrap (10 + (file.size : Int) + (K : Int)) = 10 + (file.size : Int) + (K : Int) := IntWalk.i64_in _ (by omega)
    obtain ⟨s, hs⟩ : ∃ s, s = n + (10 + file.size + K) := ⟨_, rfl⟩
    have w3 : IntKind.i64.wrap ((n : Int) + (10 + (file.size : Int) + (K : Int))) = (s : Int) := by rw [IntWalk.i64_in _ (by omega)]; omega
    have hs1 : s ≤ 4000000 := by omega
    rw [← hs] at HST
    clear hs hw hfile hname hns
    have i1 : (0 : Int) ≤ (k : Int) := by omega
    have i2 : (k : Int) < (l.length : Int) := by omega
    go_wp2_with (fail)
    all_goals try (exfalso; omega)
    generalize wr.alloc (.cells #[.string file, .string name, .string ns, .int .i64 r, .int .i64 g, .bool hb, .slice ca cs.length cc] 93) = V1 at *
    obtain ⟨y, hy⟩ : ∃ y, y = wr.heap.size := ⟨_, rfl⟩
    rw [← hy] at HP ⊢
    clear hy
    have HW : Hid (∀ W, Fresh V1 W → Calls Tryz.prog 40 #[.agg #[.string name, .string ns, .int .i64 r, .int .i64 g, .bool hb, .slice ca cs.length cc]] W fun e w' => e = .returned (.int .i64 (K : Int)) ∧ Fresh W w') := fun W f => HW.out W (HF1.out.trans f)
    have HKQ : Hid (∀ W, Fresh V1 W → W.cell? ⟨y, 0, none⟩ = some (.string file) ∧ W.cell? ⟨y, 1, none⟩ = some (.string name) ∧ W.cell? ⟨y, 2, none⟩ = some (.string ns) ∧ W.cell? ⟨y, 3, none⟩ = some (.int .i64 r) ∧ W.cell? ⟨y, 4, none⟩ = some (.int .i64 g) ∧ W.cell? ⟨y, 5, none⟩ = some (.bool hb) ∧ W.cell? ⟨y, 6, none⟩ = some (.slice ca cs.length cc)) := fun W f =>
      ⟨cell_of_at (f.at HP.out) rfl, cell_of_at (f.at HP.out) rfl, cell_of_at (f.at HP.out) rfl, cell_of_at (f.at HP.out) rfl, cell_of_at (f.at HP.out) rfl, cell_of_at (f.at HP.out) rfl, cell_of_at (f.at HP.out) rfl⟩
    clear c0 c1 c2 c3 c4 c5 c6
    have HK : Hid (Fresh V1 V1.drew) := (Fresh.refl V1).drew
    rename_i KK hKK
    refine flowM_region [some (Value.int .i64 (n : Int)), some (Value.pointer (some ⟨y, 0, none⟩)), some (Value.string file), some (Value.int .i64 (file.size : Int)), some (Value.int .i64 (10 + (file.size : Int))), some (Value.pointer (some ⟨y, 1, none⟩)), some (Value.agg #[.string name, .string ns, .int .i64 r, .int .i64 g, .bool hb, .slice ca cs.length cc]), some (Value.int .i64 (K : Int)), some (Value.int .i64 (10 + (file.size : Int) + (K : Int))), some (Value.int .i64 (s : Int)), some (Value.int .i64 (s : Int))] (fun _ _ _ => False) rfl (n := 26) rfl (by decide +kernel) (fun _ _ _ _ h _ => h) ⟨?_, ?_, ?_, ?_, ?_, ?_, ?_, ?_, ?_, ?_, ?_, trivial⟩ ?_
    · intro a W hf hin hst
      have g3 := ev_get (show a.eval (.tmp 3) = Value.int .i64 (n : Int) from hst 3 (by decide +kernel))
      refine .inl ⟨Value.int .i64 (n : Int), W, ?_, .refl _, rfl⟩
      simp [execOp, g3, go_sem]
    · intro a W hf hin hst
      have g5 := ev_get (show a.eval (.tmp 5) = Value.pointer (some ⟨y, 0, none⟩) from hst 5 (by decide +kernel))
      refine .inl ⟨Value.pointer (some ⟨y, 0, none⟩), W, ?_, .refl _, rfl⟩
      simp [execOp, g5, go_sem]
    · intro a W hf hin hst
      obtain ⟨m0, m1, m2, m3, m4, m5, m6⟩ := HKQ.out W (HK.out.trans hf)
      have g14 := ev_get (show a.eval (.tmp 14) = Value.pointer (some ⟨y, 0, none⟩) from hin 1 14 (by decide +kernel) (by decide +kernel))
      refine .inl ⟨Value.string file, W, ?_, .refl _, rfl⟩
      simp [execOp, g14, go_sem, m0, m1, m2, m3, m4, m5, m6]
    · intro a W hf hin hst
      have g15 := ev_get (show a.eval (.tmp 15) = Value.string file from hin 2 15 (by decide +kernel) (by decide +kernel))
      refine .inl ⟨Value.int .i64 (file.size : Int), W, ?_, .refl _, rfl⟩
      simp [execOp, g15, go_sem]
    · intro a W hf hin hst
      have g16 := ev_get (show a.eval (.tmp 16) = Value.int .i64 (file.size : Int) from hin 3 16 (by decide +kernel) (by decide +kernel))
      refine .inl ⟨Value.int .i64 (10 + (file.size : Int)), W, ?_, .refl _, rfl⟩
      simp [execOp, g16, go_sem, w1]
    · intro a W hf hin hst
      have g5 := ev_get (show a.eval (.tmp 5) = Value.pointer (some ⟨y, 0, none⟩) from hst 5 (by decide +kernel))
      refine .inl ⟨Value.pointer (some ⟨y, 1, none⟩), W, ?_, .refl _, rfl⟩
      simp [execOp, g5, go_sem]
    · intro a W hf hin hst
      obtain ⟨m0, m1, m2, m3, m4, m5, m6⟩ := HKQ.out W (HK.out.trans hf)
      have g18 := ev_get (show a.eval (.tmp 18) = Value.pointer (some ⟨y, 1, none⟩) from hin 5 18 (by decide +kernel) (by decide +kernel))
      refine .inl ⟨Value.agg #[.string name, .string ns, .int .i64 r, .int .i64 g, .bool hb, .slice ca cs.length cc], W, ?_, .refl _, rfl⟩
      simp [execOp, g18, go_sem, m0, m1, m2, m3, m4, m5, m6]
    · intro a W hf hin hst
      have g19 := ev_get (show a.eval (.tmp 19) = Value.agg #[.string name, .string ns, .int .i64 r, .int .i64 g, .bool hb, .slice ca cs.length cc] from hin 6 19 (by decide +kernel) (by decide +kernel))
      exact .inr ⟨40, #[Value.agg #[.string name, .string ns, .int .i64 r, .int .i64 g, .bool hb, .slice ca cs.length cc]], by simp [execOp, g19, go_sem], (HW.out W (HK.out.trans hf)).mono (fun e V h => ⟨_, h.1, h.2, rfl⟩)⟩
    · intro a W hf hin hst
      have g17 := ev_get (show a.eval (.tmp 17) = Value.int .i64 (10 + (file.size : Int)) from hin 4 17 (by decide +kernel) (by decide +kernel))
      have g20 := ev_get (show a.eval (.tmp 20) = Value.int .i64 (K : Int) from hin 7 20 (by decide +kernel) (by decide +kernel))
      refine .inl ⟨Value.int .i64 (10 + (file.size : Int) + (K : Int)), W, ?_, .refl _, rfl⟩
      simp [execOp, g17, g20, go_sem, w2]
    · intro a W hf hin hst
      have g13 := ev_get (show a.eval (.tmp 13) = Value.int .i64 (n : Int) from hin 0 13 (by decide +kernel) (by decide +kernel))
      have g21 := ev_get (show a.eval (.tmp 21) = Value.int .i64 (10 + (file.size : Int) + (K : Int)) from hin 8 21 (by decide +kernel) (by decide +kernel))
      refine .inl ⟨Value.int .i64 (s : Int), W, ?_, .refl _, rfl⟩
      simp [execOp, g13, g21, go_sem, w3]
    · intro a W hf hin hst
      have g22 := ev_get (show a.eval (.tmp 22) = Value.int .i64 (s : Int) from hin 9 22 (by decide +kernel) (by decide +kernel))
      refine .inl ⟨Value.int .i64 (s : Int), W, ?_, .refl _, rfl⟩
      simp [execOp, g22, go_sem]
    intro a W hsz hdf hf hkp hr
    have HK := Lib.hid (HK.out.trans hf)
    have ha := act_lit (n := 26) hsz hdf
    have k0 : a.eval (.tmp 0) = Value.agg #[.int .u64 seq, .slice (some ⟨gb, o1, none⟩) l.length c] := hkp 0 (by decide +kernel)
    have k1 : a.eval (.tmp 1) = Value.pointer (some ⟨z, 0, none⟩) := hkp 1 (by decide +kernel)
    have k4 : a.eval (.tmp 4) = undef := hkp 4 (by decide +kernel)
    have k6 : a.eval (.tmp 6) = Value.pointer (some ⟨z, 1, none⟩) := hkp 6 (by decide +kernel)
    have k7 : a.eval (.tmp 7) = Value.slice (some ⟨gb, o1, none⟩) l.length c := hkp 7 (by decide +kernel)
    have k8 : a.eval (.tmp 8) = Value.int .i64 (l.length : Int) := hkp 8 (by decide +kernel)
    have k9 : a.eval (.tmp 9) = Value.int .i64 (k : Int) := hkp 9 (by decide +kernel)
    have k3 : a.eval (.tmp 3) = Value.int .i64 (s : Int) := hr 10 3 (by decide +kernel)
    simp only [List.range, List.range.loop, List.map_cons, List.map_nil, k0, k1, k4, k6, k7, k8, k9, k3] at ha
    clear k0 k1 k4 k6 k7 k8 k9 k3 hsz hdf hkp hr hf
    generalize a.eval (.tmp 2) = v2 at ha
    generalize a.eval (.tmp 5) = v5 at ha
    generalize a.eval (.tmp 10) = v10 at ha
    generalize a.eval (.tmp 11) = v11 at ha
    generalize a.eval (.tmp 12) = v12 at ha
    generalize a.eval (.tmp 13) = v13 at ha
    generalize a.eval (.tmp 14) = v14 at ha
    generalize a.eval (.tmp 15) = v15 at ha
    generalize a.eval (.tmp 16) = v16 at ha
    generalize a.eval (.tmp 17) = v17 at ha
    generalize a.eval (.tmp 18) = v18 at ha
    generalize a.eval (.tmp 19) = v19 at ha
    generalize a.eval (.tmp 20) = v20 at ha
    generalize a.eval (.tmp 21) = v21 at ha
    generalize a.eval (.tmp 22) = v22 at ha
    generalize a.eval (.tmp 23) = v23 at ha
    generalize a.eval (.tmp 24) = v24 at ha
    generalize a.eval (.tmp 25) = v25 at ha
    subst ha
    refine hKK _ W ?_
    have HFN := Lib.hid ((HF.out.trans HF1.out).trans HK.out)
    clear hKK
    by_cases hbig : 40000 < s
    · have HR : Hid (E = false) := by rw [Hid, HST.out, if_pos hbig]
      clear HST
      go_wp2
      all_goals try (exfalso; omega)
      go_ret
      exact ⟨ret_bool HR.out.symm, HF0.out.trans HFN.out⟩
    · have HR : Hid (E = sm3 s ((pods3 l).drop (k + 1))) := by rw [Hid, HST.out, if_neg hbig]
      clear HST
      go_wp2
      all_goals try (exfalso; omega)
      go_roundw
      case rel => exact ⟨k + 1, s, by simp, rfl, by omega, by omega, HR.out, HFN.out⟩
      case measure => simp [intOf]; omega
  case neg =>
    obtain rfl : k = l.length := by omega
    have HR : Hid (E = true) := by rw [Hid, HE.out, List.drop_of_length_le (by omega)]; rfl
    go_wp2
    all_goals try (exfalso; omega)
    go_ret
    exact ⟨ret_bool HR.out.symm, HF0.out.trans HF.out⟩
theorem small3_at (seq : Int) (a : Option Addr) (L : List P3) (c : Nat) (w : World) (h : AtL L w a) (hl : L.length ≤ 1048576) (hlo : ∀ p ∈ L, p.Lo) :
    Calls Tryz.prog 9 #[st3 seq a L.length c] w fun e w' => e = .returned (.bool (sm3 0 L)) ∧ Fresh w w' := by
  obtain ⟨D, rfl, hr⟩ := h
  rw [pods3_length] at hl ⊢
  exact small3_any seq a D c w hr (fun m hm => hlo _ (pods3_mem hm)) hl
end Go.Proofs.YtldncgelghcjeaaGreatDoor.K
namespace Go.Proofs.YtldncgelghcjeaaGreatDoor.K
open Go.ChangeShapes Go.WideShapes Go.ChangeAt Go.RowKit
set_option maxRecDepth 100000

set_option maxHeartbeats 4000000 in
theorem same31_any (p q : M3) (w : World) (hp : p.m.At w) (hq : q.m.At w) (lp : p.m.Low) (lq : q.m.Low) : Calls Tryz.prog 56 #[p.flat, q.flat] w fun e w' => e = .returned (.bool (P3.eqB p.p q.p)) ∧ Fresh w w' := by
  obtain ⟨x0, x1, x2, x3, x4, x5, xa, xc, xs⟩ := p
  obtain ⟨y0, y1, y2, y3, y4, y5, ya, yc, ys⟩ := q
  have HE : Hid (P3.eqB (M3.p ⟨x0, x1, x2, x3, x4, x5, xa, xc, xs⟩) (M3.p ⟨y0, y1, y2, y3, y4, y5, ya, yc, ys⟩) = (decide (x0 = y0) && sameP (PM.pd ⟨x1, x2, x3, x4, x5, xa, xc, xs⟩) (PM.pd ⟨y1, y2, y3, y4, y5, ya, yc, ys⟩))) := rfl
  have HF := Lib.hid (((Fresh.refl w).alloc (.cells #[.string x0, .string x1, .string x2, .int .i64 x3, .int .i64 x4, .bool x5, .slice xa xs.length xc] 93)).alloc (.cells #[.string y0, .string y1, .string y2, .int .i64 y3, .int .i64 y4, .bool y5, .slice ya ys.length yc] 93))
  have hs := Go.Proofs.YtldncgelghcjeaaGreatDoor.same_any ⟨x1, x2, x3, x4, x5, xa, xc, xs⟩ ⟨y1, y2, y3, y4, y5, ya, yc, ys⟩ _ (hp.move HF.out) (hq.move HF.out) lp lq
  have HEC := Lib.hid hs
  dsimp only [M3.flat, PM.val] at *
  clear hp hq lp lq hs
  generalize P3.eqB (M3.p ⟨x0, x1, x2, x3, x4, x5, xa, xc, xs⟩) (M3.p ⟨y0, y1, y2, y3, y4, y5, ya, yc, ys⟩) = E at *
  generalize sameP (PM.pd ⟨x1, x2, x3, x4, x5, xa, xc, xs⟩) (PM.pd ⟨y1, y2, y3, y4, y5, ya, yc, ys⟩) = SC at *
  by_cases h1 : x0 = y0
  case neg =>
    have HR : Hid (E = false) := by rw [Hid, HE.out, decide_eq_false h1]; rfl
    have e1 := tl_ne h1
    clear HE h1 HEC
    go_enter Tryz.func56, Tryz.ntmps56
    go_wp2
    go_ret
    exact ⟨ret_bool HR.out.symm, HF.out⟩
  subst h1
  have HR : Hid (E = SC) := by rw [Hid, HE.out]; simp
  clear HE
  go_enter Tryz.func56, Tryz.ntmps56
  go_wp2_with (fail)
  refine HEC.out.mono ?_
  rintro e W1 ⟨rfl, hf⟩
  have hf := Lib.hid (HF.out.trans hf)
  go_wp2
  go_ret
  exact ⟨ret_bool HR.out.symm, hf.out⟩
set_option maxHeartbeats 4000000 in
theorem eqFunc3_any (l m : List M3) (a a' : Option Addr) (cap cap' : Nat) (w : World) (ha : Row3 w a l) (ha' : Row3 w a' m) (hl : l.length ≤ 4000000) (hlo : ∀ x ∈ l, x.m.Low) (hlo' : ∀ x ∈ m, x.m.Low) :
    Calls Tryz.prog 58 #[.slice a l.length cap, .slice a' m.length cap', .func (.func 56) #[] #[]] w fun e w' => e = .returned (.bool (eq3 (pods3 l) (pods3 m))) ∧ Fresh w w' := by
  have HROW := Lib.hid ha
  have HROW' := Lib.hid ha'
  have HLO := Lib.hid hlo
  have HLO' := Lib.hid hlo'
  clear ha ha' hlo hlo'
  obtain ⟨R, hR⟩ : ∃ R, R = eq3 (pods3 l) (pods3 m) := ⟨_, rfl⟩
  rw [← hR]
  have HR0 := Lib.hid hR
  have HPL : Hid ((pods3 l).length = l.length ∧ (pods3 m).length = m.length) := by simp [Hid, pods3]
  clear hR
  by_cases hlen : l.length = m.length
  case neg =>
    have HR : Hid (R = false) := by rw [Hid, HR0.out, eq3_len _ _ (by rw [HPL.out.1, HPL.out.2]; exact hlen)]
    have e0 : ((l.length : Int) == (m.length : Int)) = false := by rw [beq_eq_false_iff_ne]; omega
    go_enter Tryz.func58, Tryz.ntmps58
    go_wp2
    all_goals try (exfalso; omega)
    go_ret
    exact ⟨ret_bool HR.out.symm, Fresh.refl _⟩
  have HN2 : Hid (m.length = l.length) := hlen.symm
  have hd2 := HN2.out
  rw [hd2] at HPL ⊢
  clear hd2 hlen
  generalize hn : l.length = n at *
  have HNN := Lib.hid hn
  clear hn
  go_enter Tryz.func58, Tryz.ntmps58
  go_wp2
  all_goals try (exfalso; omega)
  go_loopw [17] (fun a17 wr => ∃ (k : Nat), a17 = .int .i64 (k : Int) ∧ k ≤ n ∧ Hid (R = eq3 ((pods3 l).drop k) ((pods3 m).drop k)) ∧ Hid (Fresh w wr)) (fun a17 _ => n - (intOf a17).toNat)
  case atStart => exact ⟨0, rfl, Nat.zero_le _, HR0.out, Fresh.refl _⟩
  case round =>
  obtain ⟨k, rfl, hk, HE, HF⟩ := hrel
  by_cases hltn : k < n
  case pos =>
    have hlt : k < l.length := by rw [HNN.out]; exact hltn
    have hlt' : k < m.length := by rw [HN2.out]; exact hltn
    have hR := HROW.out.move HF.out
    have hR' := HROW'.out.move HF.out
    obtain ⟨g, o1, rfl, hc⟩ := m3_form hR.row hlt
    obtain ⟨g', o1', rfl, hc'⟩ := m3_form hR'.row hlt'
    obtain ⟨c0, c1, c2, c3, c4, c5, c6⟩ := hc k hlt
    obtain ⟨v0, v1, v2, v3, v4, v5, v6⟩ := hc' k hlt'
    have HIN := Lib.hid (hR.ins _ (List.getElem_mem hlt))
    have HIN' := Lib.hid (hR'.ins _ (List.getElem_mem hlt'))
    have hlo1 := HLO.out _ (List.getElem_mem hlt)
    have hlo2 := HLO'.out _ (List.getElem_mem hlt')
    have hkp : k < (pods3 l).length := by rw [HPL.out.1]; exact hltn
    have hkp' : k < (pods3 m).length := by rw [HPL.out.2]; exact hltn
    have hpk := pods3_get hlt hkp
    have hpk' := pods3_get hlt' hkp'
    have HST : Hid (R = (P3.eqB l[k].p m[k].p && eq3 ((pods3 l).drop (k + 1)) ((pods3 m).drop (k + 1)))) := by
      have := HE.out.trans (eq3_drop hkp hkp')
      rw [hpk, hpk'] at this; exact this
    have HCALL := Lib.hid (fun W (f : Fresh wr W) => same31_any l[k] m[k] W (HIN.out.move f) (HIN'.out.move f) hlo1 hlo2)
    have lt1 : g' < wr.heap.size := World.block_lt_of_cell? wr _ v0
    clear hc hc' hR hR' hkp hkp' hpk hpk' HE HIN HIN' hlo1 hlo2
    generalize P3.eqB l[k].p m[k].p = SC at *
    generalize l[k] = p at *
    generalize m[k] = q at *
    clear hlt hlt'
    obtain ⟨x0, x1, x2, x3, x4, x5, xa, xc, xs⟩ := p
    obtain ⟨y0, y1, y2, y3, y4, y5, ya, yc, ys⟩ := q
    dsimp only [M3.flat] at *
    have i1 : (0 : Int) ≤ (k : Int) := by omega
    have i2 : (k : Int) < (n : Int) := by omega
    have HFA := Lib.hid (((Fresh.refl wr).alloc (.cells #[.string x0, .string x1, .string x2, .int .i64 x3, .int .i64 x4, .bool x5, .slice xa xs.length xc] 93)).alloc (.cells #[.string y0, .string y1, .string y2, .int .i64 y3, .int .i64 y4, .bool y5, .slice ya ys.length yc] 93))
    have HC2 := Lib.hid (HCALL.out _ HFA.out)
    clear HCALL
    cases SC with
    | false =>
      have HR : Hid (R = false) := by rw [Hid, HST.out]; rfl
      clear HST
      go_wp2_with (fail)
      all_goals try (exfalso; omega)
      refine HC2.out.mono ?_
      rintro e W1 ⟨rfl, hf⟩
      have HF2 := Lib.hid ((HF.out.trans HFA.out).trans hf)
      clear hf
      go_wp2
      all_goals try (exfalso; omega)
      go_ret
      exact ⟨ret_bool HR.out.symm, HF2.out⟩
    | true =>
      have HN : Hid (R = eq3 ((pods3 l).drop (k + 1)) ((pods3 m).drop (k + 1))) := by rw [Hid, HST.out]; rfl
      clear HST
      go_wp2_with (fail)
      all_goals try (exfalso; omega)
      refine HC2.out.mono ?_
      rintro e W1 ⟨rfl, hf⟩
      have HF2 := Lib.hid ((HF.out.trans HFA.out).trans hf)
      clear hf
      go_wp2
      all_goals try (exfalso; omega)
      go_roundw
      case rel => exact ⟨k + 1, by simp, by omega, HN.out, HF2.out⟩
      case measure => simp [intOf]; omega
  case neg =>
    obtain rfl : k = n := by omega
    have HR : Hid (R = true) := by rw [Hid, HE.out, List.drop_of_length_le (by rw [HPL.out.1]; exact Nat.le_refl _), List.drop_of_length_le (by rw [HPL.out.2]; exact Nat.le_refl _)]; rfl
    go_wp2
    all_goals try (exfalso; omega)
    go_ret
    exact ⟨ret_bool HR.out.symm, HF.out⟩
set_option maxHeartbeats 4000000 in
theorem csame3_any (s t : Int) (l m : List M3) (a a' : Option Addr) (cap cap' : Nat) (w : World) (ha : Row3 w a l) (ha' : Row3 w a' m) (hl : l.length ≤ 4000000) (hlo : ∀ x ∈ l, x.m.Low) (hlo' : ∀ x ∈ m, x.m.Low) :
    Calls Tryz.prog 20 #[st3 s a l.length cap, st3 t a' m.length cap'] w fun e w' => e = .returned (.bool (same3 s t (pods3 l) (pods3 m))) ∧ Fresh w w' := by
  have HE : Hid (same3 s t (pods3 l) (pods3 m) = (decide (s = t) && eq3 (pods3 l) (pods3 m))) := rfl
  have HX := Lib.hid (two_boxes w (.cells #[.int .u64 s, .slice a l.length cap] 25) (.cells #[.int .u64 t, .slice a' m.length cap'] 25))
  have HEF := Lib.hid (eqFunc3_any l m a a' cap cap' _ (ha.move HX.out.2.2.1) (ha'.move HX.out.2.2.1) hl hlo hlo')
  have HF := Lib.hid HX.out.2.2.1
  clear HX ha ha' hl hlo hlo'
  dsimp only [st3]
  generalize same3 s t (pods3 l) (pods3 m) = R at *
  generalize eq3 (pods3 l) (pods3 m) = SL at *
  by_cases hs : s = t
  case neg =>
    have HR : Hid (R = false) := by rw [Hid, HE.out, decide_eq_false hs]; rfl
    have e0 : (s == t) = false := by rw [beq_eq_false_iff_ne]; exact hs
    clear HEF HE
    go_enter Tryz.func20, Tryz.ntmps20
    go_wp2
    go_ret
    exact ⟨ret_bool HR.out.symm, HF.out⟩
  subst hs
  have HR : Hid (R = SL) := by rw [Hid, HE.out]; simp
  clear HE
  go_enter Tryz.func20, Tryz.ntmps20
  go_wp2_with (fail)
  refine HEF.out.mono ?_
  rintro e W1 ⟨rfl, hf⟩
  have hf := Lib.hid (HF.out.trans hf)
  go_wp2
  go_ret
  exact ⟨ret_bool HR.out.symm, hf.out⟩
end Go.Proofs.YtldncgelghcjeaaGreatDoor.K
namespace Go.Proofs.YtldncgelghcjeaaGreatDoor.K
open Go.ChangeShapes Go.WideShapes Go.ChangeAt Go.RowKit
set_option maxRecDepth 100000

theorem fresh_setCells {a : World} {g : Nat} (hg : a.heap.size ≤ g) : ∀ (vs : List Value) (o : Nat) {b : World}, Fresh a b → Fresh a (b.setCells g o vs)
  | [], _, _, h => h
  | v :: vs, o, _, h => fresh_setCells hg vs (o + 1) (h.setCell (p := ⟨g, o, none⟩) hg v)
theorem eq_toList3 (a b : ByteArray) : (a.toList == b.toList) = decide (a = b) := by
  rw [Lib.toList_data, Lib.toList_data]
  by_cases h : a = b
  · subst h; simp
  · rw [decide_eq_false h]
    rw [beq_eq_false_iff_ne]
    intro e
    exact h (ByteArray.ext (Array.toList_inj.1 e))
theorem key3_any (file : ByteArray) (b : Nat) (x : M3) (w : World) (hb : w.cell? ⟨b, 0, none⟩ = some (.string file)) :
    Calls Tryz.prog 54 #[x.flat, .pointer (some ⟨b, 0, none⟩)] w fun e w' => e = .returned (.bool (decide (x.file = file))) ∧ Fresh w w' := by
  obtain ⟨x0, x1, x2, x3, x4, x5, xa, xc, xs⟩ := x
  have hb2 := ((Fresh.refl w).alloc (.cells #[.string x0, .string x1, .string x2, .int .i64 x3, .int .i64 x4, .bool x5, .slice xa xs.length xc] 93)).cell hb
  have hne : b ≠ w.heap.size := by have := World.block_lt_of_cell? w ⟨b, 0, none⟩ hb; dsimp only at this; omega
  dsimp only [M3.flat]
  clear hb
  go_enter Tryz.func54, Tryz.ntmps54
  go_wp2
  go_ret
  exact ⟨by rw [← eq_toList3]; rfl, (Fresh.refl w).alloc _⟩
def NotIn (file : ByteArray) (D : List M3) (j : Nat) : Prop := ∀ k (h : k < D.length), k < j → D[k].file ≠ file
def FoundAt (file : ByteArray) (D : List M3) (i : Int) : Prop := (∃ (j : Nat) (h : j < D.length), i = j ∧ D[j].file = file ∧ NotIn file D j) ∨ i = -1 ∧ NotIn file D D.length
theorem notIn_succ {file : ByteArray} {D : List M3} {j : Nat} (h : NotIn file D j) (hj : j < D.length) (hn : ¬ D[j].file = file) : NotIn file D (j + 1) := fun k hk hlt => by
  by_cases e : k = j
  · subst e; exact hn
  · exact h k hk (by omega)
set_option maxHeartbeats 4000000 in
theorem found3_any (file : ByteArray) (b : Nat) (D : List M3) (a : Option Addr) (c : Nat) (w : World) (h : RowAt w a (m3s D)) (hl : D.length ≤ 4000000) (hb : w.cell? ⟨b, 0, none⟩ = some (.string file)) :
    Calls Tryz.prog 53 #[.slice a D.length c, .func (.func 54) #[] #[.pointer (some ⟨b, 0, none⟩)]] w fun e w' => ∃ i : Int, e = .returned (.int .i64 i) ∧ FoundAt file D i ∧ Fresh w w' := by
  have HR := Lib.hid h
  have HKB := Lib.hid hb
  clear h hb
  obtain ⟨n, hn⟩ : ∃ n, n = D.length := ⟨_, rfl⟩
  have HN := Lib.hid hn
  rw [← hn] at hl ⊢
  clear hn
  go_enter Tryz.func53, Tryz.ntmps53
  go_wp2
  go_loopw [8] (fun a8 wr => ∃ j : Nat, j ≤ n ∧ a8 = .int .i64 j ∧ Hid (NotIn file D j) ∧ Hid (Fresh w wr)) (fun a8 _ => n - (intOf a8).toNat)
  case atStart => exact ⟨0, Nat.zero_le _, rfl, (fun k _ h => absurd h (Nat.not_lt_zero _)), Fresh.refl w⟩
  case round =>
  obtain ⟨j, hj, rfl, HA, HW⟩ := hrel
  by_cases hlt : j < n
  case pos =>
    have hjd : j < D.length := by rw [← HN.out]; exact hlt
    obtain ⟨g, o1, rfl, hc⟩ := m3_form (HR.out.move HW.out) hjd
    obtain ⟨c0, c1, c2, c3, c4, c5, c6⟩ := hc j hjd
    have HQ := Lib.hid (key3_any file b D[j] wr (HW.out.cell HKB.out))
    have HFO : Hid (D[j].file = file → FoundAt file D j) := fun e => .inl ⟨j, hjd, rfl, e, HA.out⟩
    have HNI : Hid (¬ D[j].file = file → NotIn file D (j + 1)) := notIn_succ HA.out hjd
    have i1 : (0 : Int) ≤ (j : Int) := by omega
    have i2 : (j : Int) < (n : Int) := by omega
    clear hc
    generalize D[j] = x at *
    clear hjd
    obtain ⟨x0, x1, x2, x3, x4, x5, xa, xc, xs⟩ := x
    dsimp only [M3.flat] at *
    generalize xs.length = xl at *
    by_cases hs : x0 = file
    · rw [decide_eq_true hs] at HQ
      have HE := Lib.hid (HFO.out hs)
      clear hs HNI HFO
      go_wp2_with (fail)
      all_goals try (exfalso; omega)
      refine HQ.out.mono ?_
      rintro e w1 ⟨rfl, hf⟩
      have HF := Lib.hid (HW.out.trans hf)
      clear hf
      go_wp2
      go_ret
      exact ⟨j, rfl, HE.out, HF.out⟩
    · rw [decide_eq_false hs] at HQ
      have HE := Lib.hid (HNI.out hs)
      clear hs HNI HFO
      go_wp2_with (fail)
      all_goals try (exfalso; omega)
      refine HQ.out.mono ?_
      rintro e w1 ⟨rfl, hf⟩
      have HF := Lib.hid (HW.out.trans hf)
      clear hf
      go_wp2
      all_goals try (exfalso; omega)
      go_roundw
      case rel => exact ⟨j + 1, by omega, by simp, HE.out, HF.out⟩
      case measure => simp [intOf]; omega
  case neg =>
    obtain rfl : j = n := by omega
    have HE : Hid (FoundAt file D (-1)) := .inr ⟨rfl, by have := HA.out; rw [HN.out] at this; exact this⟩
    go_wp2
    all_goals try (exfalso; omega)
    go_ret
    exact ⟨-1, rfl, HE.out, HW.out⟩
/-- What Find gives. -/
def Got3 (file : ByteArray) (D : List M3) (x : PM) (ok : Bool) : Prop := (ok = true ∧ ∃ (j : Nat) (h : j < D.length), x.pd = D[j].m.pd ∧ x.Low ∧ D[j].file = file ∧ NotIn file D j) ∨ ok = false ∧ NotIn file D D.length
def pm0 : PM := ⟨⟨#[]⟩, ⟨#[]⟩, 0, 0, false, none, 0, []⟩
theorem pm0_at (w : World) : pm0.At w := ⟨RowAt.nil _ _, by simp [pm0], by simp [pm0]⟩
theorem box6 {w : World} {b t : Nat} {n s : ByteArray} {r g : Int} {h : Bool} {v : Value} (hb : w.heap[b]? = some (.cells #[.string n, .string s, .int .i64 r, .int .i64 g, .bool h, v] t)) :
    (w.cell? ⟨b, 0, none⟩ = some (.string n) ∧ w.cell? ⟨b, 1, none⟩ = some (.string s) ∧ w.cell? ⟨b, 2, none⟩ = some (.int .i64 r) ∧ w.cell? ⟨b, 3, none⟩ = some (.int .i64 g) ∧ w.cell? ⟨b, 4, none⟩ = some (.bool h) ∧ w.cell? ⟨b, 5, none⟩ = some v) ∧ (w.frozen? ⟨b, 0, none⟩ = false ∧ w.frozen? ⟨b, 1, none⟩ = false ∧ w.frozen? ⟨b, 2, none⟩ = false ∧ w.frozen? ⟨b, 3, none⟩ = false ∧ w.frozen? ⟨b, 4, none⟩ = false ∧ w.frozen? ⟨b, 5, none⟩ = false) :=
  ⟨⟨cell_of_at hb rfl, cell_of_at hb rfl, cell_of_at hb rfl, cell_of_at hb rfl, cell_of_at hb rfl, cell_of_at hb rfl⟩, frozen_of_at hb _, frozen_of_at hb _, frozen_of_at hb _, frozen_of_at hb _, frozen_of_at hb _, frozen_of_at hb _⟩
set_option maxHeartbeats 4000000 in
theorem find3_any (seq : Int) (a : Option Addr) (D : List M3) (c : Nat) (file : ByteArray) (w : World) (h : Row3 w a D) (hl : D.length ≤ 4000000) (hlo : ∀ x ∈ D, x.m.Low) :
    Calls Tryz.prog 16 #[st3 seq a D.length c, .string file] w fun e w' => ∃ (x : PM) (ok : Bool), e = .returned (.tuple #[x.val, .bool ok]) ∧ x.At w' ∧ Got3 file D x ok ∧ Fresh w w' := by
  have HROW := Lib.hid h
  have HLO := Lib.hid hlo
  clear h hlo
  have HQ : Hid (∀ (b : Nat) (W : World), Fresh w W → W.cell? ⟨b, 0, none⟩ = some (.string file) → Calls Tryz.prog 53 #[.slice a D.length c, .func (.func 54) #[] #[.pointer (some ⟨b, 0, none⟩)]] W fun e w' => ∃ i : Int, e = .returned (.int .i64 i) ∧ FoundAt file D i ∧ Fresh W w') := fun b W hf hb => found3_any file b D a c W (HROW.out.row.move hf) hl hb
  obtain ⟨n, hn⟩ : ∃ n, n = D.length := ⟨_, rfl⟩
  have HN := Lib.hid hn
  rw [← hn] at hl HQ ⊢
  clear hn
  dsimp only [st3]
  go_enter Tryz.func16, Tryz.ntmps16
  go_wp2_with (fail)
  refine (HQ.out _ _ (((Fresh.refl w).alloc _).alloc _ |>.alloc _) ?_).mono ?_
  · have := at_new (w.alloc (.cells #[.int .u64 seq, .slice a n c] 25)) (.cells #[.string file] 9)
    rw [World.size_alloc] at this
    exact cell_of_at (at_alloc this) rfl
  rintro e w1 ⟨i, rfl, hfi, hf⟩
  have HFI := Lib.hid hfi
  have HF := Lib.hid ((((Fresh.refl w).alloc _).alloc _ |>.alloc _).trans hf)
  obtain ⟨b0, b1, _⟩ := st3_box (hf.at (at_alloc (at_alloc (at_new w (.cells #[.int .u64 seq, .slice a n c] 25)))))
  have hb := hf.at (at_new ((w.alloc (.cells #[.int .u64 seq, .slice a n c] 25)).alloc (.cells #[.string file] 9)) (.cells #[.string ⟨#[]⟩, .string ⟨#[]⟩, .int .i64 0, .int .i64 0, .bool false, .slice none 0 0] 41))
  rw [World.size_alloc, World.size_alloc] at hb
  obtain ⟨⟨c0, c1, c2, c3, c4, c5⟩, z0, z1, z2, z3, z4, z5⟩ := box6 hb
  clear hf hb hfi
  rcases HFI.out with ⟨j, hj, rfl, he⟩ | ⟨rfl, he⟩
  · have HE := Lib.hid he
    obtain ⟨g, o1, rfl, hc⟩ := m3_form (HROW.out.row.move HF.out) hj
    obtain ⟨d0, d1, d2, d3, d4, d5, d6⟩ := hc j hj
    have HXA : Hid (D[j].m.At w) := HROW.out.ins _ (List.getElem_mem hj)
    have HG : Hid (Got3 file D D[j].m true) := .inl ⟨rfl, j, hj, rfl, HLO.out _ (List.getElem_mem hj), HE.out⟩
    have i1 : (j : Int) < (n : Int) := by have := HN.out; omega
    have i2 : ¬ (j : Int) < 0 := by omega
    have i3 : (0 : Int) ≤ (j : Int) := by omega
    clear he HFI HE hc
    generalize D[j] = x at *
    obtain ⟨x0, x1, x2, x3, x4, x5, xa, xc, xs⟩ := x
    have HXV : Hid (PM.val ⟨x1, x2, x3, x4, x5, xa, xc, xs⟩ = .agg #[.string x1, .string x2, .int .i64 x3, .int .i64 x4, .bool x5, .slice xa xs.length xc]) := rfl
    dsimp only at d0 d1 d2 d3 d4 d5 d6 HXA HG
    generalize xs.length = xl at *
    go_wp2
    all_goals try (exfalso; omega)
    refine bodyPost_ret (v := .tuple #[.agg #[.string x1, .string x2, .int .i64 x3, .int .i64 x4, .bool x5, .slice xa xl xc], .bool true]) (by simp [results, Tryz.results16, go_sem, *]) rfl ⟨⟨x1, x2, x3, x4, x5, xa, xc, xs⟩, true, by rw [HXV.out], ?_, HG.out, ?_⟩
    · refine HXA.out.move ?_
      exact fresh_setCells (by omega) [.string x1, .string x2, .int .i64 x3, .int .i64 x4, .bool x5, .slice xa xl xc] 0 HF.out
    · exact fresh_setCells (by omega) [.string x1, .string x2, .int .i64 x3, .int .i64 x4, .bool x5, .slice xa xl xc] 0 HF.out
  · have HE := Lib.hid he
    clear he HFI
    go_wp2
    refine bodyPost_ret (v := .tuple #[.agg #[.string ⟨#[]⟩, .string ⟨#[]⟩, .int .i64 0, .int .i64 0, .bool false, .slice none 0 0], .bool false]) (by simp [results, Tryz.results16, go_sem, *]) rfl ⟨pm0, false, rfl, pm0_at _, .inr ⟨rfl, HE.out⟩, ?_⟩
    exact fresh_setCells (by omega) [.string ⟨#[]⟩, .string ⟨#[]⟩, .int .i64 0, .int .i64 0, .bool false, .slice none 0 0] 0 HF.out
end Go.Proofs.YtldncgelghcjeaaGreatDoor.K
namespace Go.Proofs.YtldncgelghcjeaaGreatDoor.K
open Go.ChangeShapes Go.WideShapes Go.ChangeAt Go.RowKit
set_option maxRecDepth 100000

set_option maxHeartbeats 4000000 in
theorem first3_any (seq : Int) (a : Option Addr) (D : List M3) (c i : Nat) (w : World) (h : Row3 w a D) (hl : D.length ≤ 4000000) (hi : i < D.length) :
    Calls Tryz.prog 17 #[st3 seq a D.length c, .int .i64 (i : Int)] w fun e w' => ∃ r : Bool, e = .returned (.bool r) ∧ (r = true ↔ NotIn D[i].file D i) ∧ Fresh w w' := by
  have HA := Lib.hid (at_new w (.cells #[.int .u64 seq, .slice a D.length c] 30))
  have HF0 := Lib.hid ((Fresh.refl w).alloc (.cells #[.int .u64 seq, .slice a D.length c] 30))
  obtain ⟨g, o1, rfl, hc⟩ := m3_form h.row hi
  clear h
  have HC := Lib.hid hc
  have HG : Hid (∀ j (hj : j < D.length), D[j].file = D[i].file → j < i → ∀ r : Bool, r = false → (r = true ↔ NotIn D[i].file D i)) := fun j hj e hlt r hr => by
    subst hr
    exact ⟨fun h => absurd h (by simp), fun h => absurd e (h j hj hlt)⟩
  obtain ⟨n, hn⟩ : ∃ n, n = D.length := ⟨_, rfl⟩
  have HN := Lib.hid hn
  have hin : i < n := by omega
  rw [← hn] at hl HA HF0 ⊢
  clear hn hc
  dsimp only [st3]
  go_enter Tryz.func17, Tryz.ntmps17
  go_wp2
  generalize w.alloc (.cells #[.int .u64 seq, .slice (some ⟨g, o1, none⟩) n c] 30) = W1 at *
  obtain ⟨z, hz⟩ : ∃ z, z = w.heap.size := ⟨_, rfl⟩
  rw [← hz] at HA ⊢
  clear hz
  go_loopw [7] (fun a7 wr => ∃ k : Nat, k ≤ i ∧ a7 = .int .i64 (k : Int) ∧ Hid (NotIn D[i].file D k) ∧ Hid (Fresh W1 wr)) (fun a7 _ => i - (intOf a7).toNat)
  case atStart => exact ⟨0, Nat.zero_le _, rfl, (fun k _ h => absurd h (Nat.not_lt_zero _)), Fresh.refl _⟩
  case round =>
  obtain ⟨k, hk, rfl, HA1, HF⟩ := hrel
  obtain ⟨b0, b1, _⟩ := st3_box (HF.out.at HA.out)
  by_cases hlt : k < i
  case pos =>
    have hkd : k < D.length := by have := HN.out; omega
    have c1 := HF.out.cell (HF0.out.cell (HC.out k hkd).1)
    have c2 := HF.out.cell (HF0.out.cell (HC.out i hi).1)
    have HNI : Hid (¬ D[k].file = D[i].file → NotIn D[i].file D (k + 1)) := notIn_succ HA1.out hkd
    have HFA : Hid (D[k].file = D[i].file → ∀ r : Bool, r = false → (r = true ↔ NotIn D[i].file D i)) := fun e => HG.out k hkd e hlt
    have i1 : (0 : Int) ≤ (k : Int) := by omega
    have i2 : (k : Int) < (n : Int) := by omega
    have i3 : (0 : Int) ≤ (i : Int) := by omega
    have i4 : (i : Int) < (n : Int) := by omega
    clear HA1 HC HG
    generalize hx : D[i].file = x at *
    have HX := Lib.hid hx
    clear hx
    generalize D[k].file = y at *
    clear hkd
    by_cases hs : y = x
    · subst hs
      have HE := Lib.hid (HFA.out rfl)
      clear HFA HNI
      go_wp2_with (fail)
      go_quiet (fail)
      go_wp2
      all_goals try (exfalso; omega)
      go_ret
      exact ⟨false, rfl, by rw [HX.out]; exact HE.out _ rfl, (HF0.out.trans HF.out).trans (fresh_drewN _ _)⟩
    · have HE := Lib.hid (HNI.out hs)
      have e1 := tl_ne hs
      clear HFA HNI hs
      go_wp2_with (fail)
      go_quiet (fail)
      go_wp2
      all_goals try (exfalso; omega)
      go_roundw
      case rel => exact ⟨k + 1, by omega, by simp, HE.out, HF.out.trans (fresh_drewN _ _)⟩
      case measure => simp [intOf]; omega
  case neg =>
    obtain rfl : k = i := by omega
    go_wp2
    all_goals try (exfalso; omega)
    go_ret
    exact ⟨true, rfl, ⟨fun _ => HA1.out, fun _ => rfl⟩, HF0.out.trans HF.out⟩
end Go.Proofs.YtldncgelghcjeaaGreatDoor.K
namespace Go.Proofs.YtldncgelghcjeaaGreatDoor.K
open Go.ChangeShapes Go.WideShapes Go.ChangeAt Go.RowKit
set_option maxRecDepth 100000

/-- What Bytes answers (K3Rbytes). -/
def BytesSays : Prop := ∀ (seq : Int) (a : Option Addr) (L : List P3) (c : Nat) (w : World), AtL L w a → (∀ p ∈ L, p.Ok) → L.length ≤ 1024 → 0 ≤ seq → seq ≤ 18446744073709551615 →
    Calls Tryz.prog 15 #[st3 seq a L.length c] w fun e w' => e = .returned (.string (tx (enc3L seq L))) ∧ Fresh w w'
theorem csame3_at (s t : Int) (L M : List P3) (a a' : Option Addr) (c c' : Nat) (w : World) (h : AtL L w a) (h' : AtL M w a') (hl : L.length ≤ 1048576) (hlo : ∀ p ∈ L, p.Lo) (hlo' : ∀ p ∈ M, p.Lo) :
    Calls Tryz.prog 20 #[st3 s a L.length c, st3 t a' M.length c'] w fun e w' => e = .returned (.bool (same3 s t L M)) ∧ Fresh w w' := by
  obtain ⟨D, rfl, hr⟩ := h
  obtain ⟨E, rfl, hr'⟩ := h'
  rw [pods3_length] at hl ⊢
  rw [pods3_length]
  exact csame3_any s t D E a a' c c' w hr hr' (by omega) (fun m hm => (hlo _ (pods3_mem hm)).low) (fun m hm => (hlo' _ (pods3_mem hm)).low)
/-- No pod ahead of the j-th has the file. -/
def NoF (file : ByteArray) (L : List P3) (j : Nat) : Prop := ∀ k (h : k < L.length), k < j → L[k].file ≠ file
theorem notIn_pods {file : ByteArray} {D : List M3} {j : Nat} : NotIn file D j ↔ NoF file (pods3 D) j := by
  constructor
  · intro h k hk hlt
    have hk' : k < D.length := by rw [← pods3_length]; exact hk
    rw [pods3_get hk' hk]
    exact h k hk' hlt
  · intro h k hk hlt
    have hk' : k < (pods3 D).length := by rw [pods3_length]; exact hk
    have := h k hk' hlt
    rw [pods3_get hk hk'] at this
    exact this
def GotL (file : ByteArray) (L : List P3) (x : PM) (ok : Bool) : Prop := (ok = true ∧ ∃ (j : Nat) (h : j < L.length), x.pd = L[j].pd ∧ x.Low ∧ L[j].file = file ∧ NoF file L j) ∨ ok = false ∧ NoF file L L.length
theorem find3_at (seq : Int) (a : Option Addr) (L : List P3) (c : Nat) (file : ByteArray) (w : World) (h : AtL L w a) (hl : L.length ≤ 1048576) (hlo : ∀ p ∈ L, p.Lo) :
    Calls Tryz.prog 16 #[st3 seq a L.length c, .string file] w fun e w' => ∃ (x : PM) (ok : Bool), e = .returned (.tuple #[x.val, .bool ok]) ∧ x.At w' ∧ GotL file L x ok ∧ Fresh w w' := by
  obtain ⟨D, rfl, hr⟩ := h
  rw [pods3_length] at hl ⊢
  refine (find3_any seq a D c file w hr (by omega) (fun m hm => (hlo _ (pods3_mem hm)).low)).mono ?_
  rintro e w' ⟨x, ok, rfl, h1, h2, h3⟩
  refine ⟨x, ok, rfl, h1, ?_, h3⟩
  rcases h2 with ⟨rfl, j, hj, g1, g2, g3, g4⟩ | ⟨rfl, g⟩
  · have hj' : j < (pods3 D).length := by rw [pods3_length]; exact hj
    have e := pods3_get hj hj'
    exact .inl ⟨rfl, j, hj', by rw [e]; exact g1, g2, by rw [e]; exact g3, notIn_pods.1 g4⟩
  · exact .inr ⟨rfl, by rw [pods3_length]; exact notIn_pods.1 g⟩
theorem first3_at (seq : Int) (a : Option Addr) (L : List P3) (c i : Nat) (w : World) (h : AtL L w a) (hl : L.length ≤ 1048576) (hi : i < L.length) :
    Calls Tryz.prog 17 #[st3 seq a L.length c, .int .i64 (i : Int)] w fun e w' => ∃ r : Bool, e = .returned (.bool r) ∧ (r = true ↔ NoF L[i].file L i) ∧ Fresh w w' := by
  obtain ⟨D, rfl, hr⟩ := h
  have hi' : i < D.length := by rw [← pods3_length]; exact hi
  have e := pods3_get hi' hi
  have := first3_any seq a D c i w hr (by rw [pods3_length] at hl; omega) hi'
  rw [pods3_length, e]
  refine this.mono ?_
  rintro r w' ⟨b, rfl, h1, h2⟩
  exact ⟨b, rfl, h1.trans notIn_pods, h2⟩
/-- Is there a pod of the file at i or behind it? -/
def isFrom (file : ByteArray) (L : List P3) (i : Nat) : Bool := (L.drop i).any fun p => decide (p.file = file)
theorem isFrom_end (file : ByteArray) (L : List P3) : isFrom file L L.length = false := by simp [isFrom]
theorem isFrom_yes {file : ByteArray} {L : List P3} {i : Nat} (h : i < L.length) (e : L[i].file = file) : isFrom file L i = true := by
  rw [isFrom, List.drop_eq_getElem_cons h, List.any_cons, decide_eq_true e]; rfl
theorem isFrom_no {file : ByteArray} {L : List P3} {i : Nat} (h : i < L.length) (e : ¬ L[i].file = file) : isFrom file L i = isFrom file L (i + 1) := by
  rw [isFrom, isFrom, List.drop_eq_getElem_cons h, List.any_cons, decide_eq_false e]; rfl
theorem got_is {file : ByteArray} {L : List P3} {x : PM} {ok : Bool} (h : GotL file L x ok) : isFrom file L 0 = ok := by
  rcases h with ⟨rfl, j, hj, _, _, h3, _⟩ | ⟨rfl, h⟩
  · rw [isFrom, List.drop_zero, List.any_eq_true]
    exact ⟨L[j], List.getElem_mem hj, by simp [h3]⟩
  · rw [isFrom, List.drop_zero, List.any_eq_false]
    intro p hp
    obtain ⟨k, hk, rfl⟩ := List.mem_iff_getElem.1 hp
    have := h k hk hk
    simp [this]
/-- A pod of the file is there: found; and where it is the first, it is the one found. -/
theorem got_at {file : ByteArray} {L : List P3} {x : PM} {ok : Bool} (h : GotL file L x ok) {i : Nat} (hi : i < L.length) (e : L[i].file = file) : ok = true ∧ x.Low ∧ (NoF L[i].file L i → x.pd = L[i].pd) := by
  rcases h with ⟨rfl, j, hj, h1, h2, h3, h4⟩ | ⟨rfl, h⟩
  · refine ⟨rfl, h2, fun hn => ?_⟩
    have : i = j := by
      rcases Nat.lt_trichotomy i j with h | h | h
      · exact absurd e (h4 i hi h)
      · exact h
      · exact absurd (h3.trans e.symm) (hn j hj h)
    subst this; exact h1
  · exact absurd e (h i hi hi)
theorem Res3.act {A0 : Act} {w0 : World} {p q : SM3} {b c : Nat} {a : Act} {W : World} {m n : SM3} {zx zy : Nat} (h : Res3 A0 w0 p q b c a W m n zx zy) (hs : A0.tmps.size = 135) (hd : A0.defers = []) :
    a = (((((A0.put (some 30) p.val).put (some 31) m.val).put (some 32) q.val).put (some 33) n.val).put (some 7) (.pointer (some ⟨zx, 0, none⟩))).put (some 8) (.pointer (some ⟨zy, 0, none⟩)) := by
  refine act_ext (by rw [h.fs]; simp only [put_size]; exact hs.symm) (by rw [h.fd]; simp only [put_defers]; exact hd.symm) (fun t => ?_)
  by_cases e5 : t = 8
  · subst e5; rw [h.eb1, ev_same (by simp only [put_size]; omega)]
  rw [ev_ne (fun e => e5 e.symm)]
  by_cases e4 : t = 7
  · subst e4; rw [h.eb0, ev_same (by simp only [put_size]; omega)]
  rw [ev_ne (fun e => e4 e.symm)]
  by_cases e3 : t = 33
  · subst e3; rw [h.es3, ev_same (by simp only [put_size]; omega)]
  rw [ev_ne (fun e => e3 e.symm)]
  by_cases e2 : t = 32
  · subst e2; rw [h.es2, ev_same (by simp only [put_size]; omega)]
  rw [ev_ne (fun e => e2 e.symm)]
  by_cases e1 : t = 31
  · subst e1; rw [h.es1, ev_same (by simp only [put_size]; omega)]
  rw [ev_ne (fun e => e1 e.symm)]
  by_cases e0 : t = 30
  · subst e0; rw [h.es0, ev_same (by omega)]
  rw [ev_ne (fun e => e0 e.symm)]
  exact h.sm t e0 e1 e2 e3 e4 e5
end Go.Proofs.YtldncgelghcjeaaGreatDoor.K
