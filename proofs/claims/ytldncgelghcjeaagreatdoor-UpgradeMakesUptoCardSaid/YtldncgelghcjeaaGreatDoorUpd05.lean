/-
  Are two states of version 3 alike, by package ckthree?
  States made of others, by package upgrade. (printed by gencode.py.txt)
  upgrade.Both and upgrade.Down.
  What a strings.Builder does when a text is written leaves what is of another type.
-/
import Derived.Test.YtldncgelghcjeaaGreatDoorCat21
import Derived.Test.YtldncgelghcjeaaGreatDoorCat12
import Derived.Test.YtldncgelghcjeaaGreatDoorCat20
import Derived.Test.YtldncgelghcjeaaGreatDoorUpd04
import Derived.Test.YtldncgelghcjeaaGreatDoorCat26
import Derived.Laws.EntriesVeiled
set_option linter.unusedSimpArgs false
set_option linter.unusedVariables false
namespace Go.Proofs.YtldncgelghcjeaaGreatDoor.K
open Go.ChangeShapes Go.WideShapes Go.ChangeAt Go.RowKit
set_option maxRecDepth 100000

set_option maxHeartbeats 4000000 in
theorem same31_any (p q : M3) (w : World) (hp : p.m.At w) (hq : q.m.At w) (lp : p.m.Low) (lq : q.m.Low) : Calls Tryz.prog 56 #[p.flat, q.flat] w fun e w' => e = .returned (.bool (P3.eqB p.p q.p)) ∧ Fresh w w' := by
  obtain ⟨x0, x1, x2, x3, x4, x5, xa, xc, xs⟩ := p
  obtain ⟨y0, y1, y2, y3, y4, y5, ya, yc, ys⟩ := q
  have HE : Hid (P3.eqB (M3.p ⟨x0, x1, x2, x3, x4, x5, xa, xc, xs⟩) (M3.p ⟨y0, y1, y2, y3, y4, y5, ya, yc, ys⟩) = (decide (x0 = y0) && sameP (PM.pd ⟨x1, x2, x3, x4, x5, xa, xc, xs⟩) (PM.pd ⟨y1, y2, y3, y4, y5, ya, yc, ys⟩))) := rfl
  have HF := Lib.hid (((Fresh.refl w).alloc (.cells #[.string x0, .string x1, .string x2, .int .i64 x3, .int .i64 x4, .bool x5, .slice xa xs.length xc] 93)).alloc (.cells #[.string y0, .string y1, .string y2, .int .i64 y3, .int .i64 y4, .bool y5, .slice ya ys.length yc] 93))
  have hs := Go.Proofs.YtldncgelghcjeaaGreatDoor.same_any ⟨x1, x2, x3, x4, x5, xa, xc, xs⟩ ⟨y1, y2, y3, y4, y5, ya, yc, ys⟩ _ (hp.move HF.out) (hq.move HF.out) lp lq
  have HEC := Lib.hid hs
  dsimp only [M3.flat, PM.val] at *
  clear hp hq lp lq hs
  generalize P3.eqB (M3.p ⟨x0, x1, x2, x3, x4, x5, xa, xc, xs⟩) (M3.p ⟨y0, y1, y2, y3, y4, y5, ya, yc, ys⟩) = E at *
  generalize sameP (PM.pd ⟨x1, x2, x3, x4, x5, xa, xc, xs⟩) (PM.pd ⟨y1, y2, y3, y4, y5, ya, yc, ys⟩) = SC at *
  by_cases h1 : x0 = y0
  case neg =>
    have HR : Hid (E = false) := by rw [Hid, HE.out, decide_eq_false h1]; rfl
    have e1 := tl_ne h1
    clear HE h1 HEC
    go_enter Tryz.func56, Tryz.ntmps56
    go_wp2
    go_ret
    exact ⟨ret_bool HR.out.symm, HF.out⟩
  subst h1
  have HR : Hid (E = SC) := by rw [Hid, HE.out]; simp
  clear HE
  go_enter Tryz.func56, Tryz.ntmps56
  go_wp2_with (fail)
  refine HEC.out.mono ?_
  rintro e W1 ⟨rfl, hf⟩
  have hf := Lib.hid (HF.out.trans hf)
  go_wp2
  go_ret
  exact ⟨ret_bool HR.out.symm, hf.out⟩
set_option maxHeartbeats 4000000 in
theorem eqFunc3_any (l m : List M3) (a a' : Option Addr) (cap cap' : Nat) (w : World) (ha : Row3 w a l) (ha' : Row3 w a' m) (hl : l.length ≤ 4000000) (hlo : ∀ x ∈ l, x.m.Low) (hlo' : ∀ x ∈ m, x.m.Low) :
    Calls Tryz.prog 58 #[.slice a l.length cap, .slice a' m.length cap', .func (.func 56) #[] #[]] w fun e w' => e = .returned (.bool (eq3 (pods3 l) (pods3 m))) ∧ Fresh w w' := by
  have HROW := Lib.hid ha
  have HROW' := Lib.hid ha'
  have HLO := Lib.hid hlo
  have HLO' := Lib.hid hlo'
  clear ha ha' hlo hlo'
  obtain ⟨R, hR⟩ : ∃ R, R = eq3 (pods3 l) (pods3 m) := ⟨_, rfl⟩
  rw [← hR]
  have HR0 := Lib.hid hR
  have HPL : Hid ((pods3 l).length = l.length ∧ (pods3 m).length = m.length) := by simp [Hid, pods3]
  clear hR
  by_cases hlen : l.length = m.length
  case neg =>
    have HR : Hid (R = false) := by rw [Hid, HR0.out, eq3_len _ _ (by rw [HPL.out.1, HPL.out.2]; exact hlen)]
    have e0 : ((l.length : Int) == (m.length : Int)) = false := by rw [beq_eq_false_iff_ne]; omega
    go_enter Tryz.func58, Tryz.ntmps58
    go_wp2
    all_goals try (exfalso; omega)
    go_ret
    exact ⟨ret_bool HR.out.symm, Fresh.refl _⟩
  have HN2 : Hid (m.length = l.length) := hlen.symm
  have hd2 := HN2.out
  rw [hd2] at HPL ⊢
  clear hd2 hlen
  generalize hn : l.length = n at *
  have HNN := Lib.hid hn
  clear hn
  go_enter Tryz.func58, Tryz.ntmps58
  go_wp2
  all_goals try (exfalso; omega)
  go_loopw [17] (fun a17 wr => ∃ (k : Nat), a17 = .int .i64 (k : Int) ∧ k ≤ n ∧ Hid (R = eq3 ((pods3 l).drop k) ((pods3 m).drop k)) ∧ Hid (Fresh w wr)) (fun a17 _ => n - (intOf a17).toNat)
  case atStart => exact ⟨0, rfl, Nat.zero_le _, HR0.out, Fresh.refl _⟩
  case round =>
  obtain ⟨k, rfl, hk, HE, HF⟩ := hrel
  by_cases hltn : k < n
  case pos =>
    have hlt : k < l.length := by rw [HNN.out]; exact hltn
    have hlt' : k < m.length := by rw [HN2.out]; exact hltn
    have hR := HROW.out.move HF.out
    have hR' := HROW'.out.move HF.out
    obtain ⟨g, o1, rfl, hc⟩ := m3_form hR.row hlt
    obtain ⟨g', o1', rfl, hc'⟩ := m3_form hR'.row hlt'
    obtain ⟨c0, c1, c2, c3, c4, c5, c6⟩ := hc k hlt
    obtain ⟨v0, v1, v2, v3, v4, v5, v6⟩ := hc' k hlt'
    have HIN := Lib.hid (hR.ins _ (List.getElem_mem hlt))
    have HIN' := Lib.hid (hR'.ins _ (List.getElem_mem hlt'))
    have hlo1 := HLO.out _ (List.getElem_mem hlt)
    have hlo2 := HLO'.out _ (List.getElem_mem hlt')
    have hkp : k < (pods3 l).length := by rw [HPL.out.1]; exact hltn
    have hkp' : k < (pods3 m).length := by rw [HPL.out.2]; exact hltn
    have hpk := pods3_get hlt hkp
    have hpk' := pods3_get hlt' hkp'
    have HST : Hid (R = (P3.eqB l[k].p m[k].p && eq3 ((pods3 l).drop (k + 1)) ((pods3 m).drop (k + 1)))) := by
      have := HE.out.trans (eq3_drop hkp hkp')
      rw [hpk, hpk'] at this; exact this
    have HCALL := Lib.hid (fun W (f : Fresh wr W) => same31_any l[k] m[k] W (HIN.out.move f) (HIN'.out.move f) hlo1 hlo2)
    have lt1 : g' < wr.heap.size := World.block_lt_of_cell? wr _ v0
    clear hc hc' hR hR' hkp hkp' hpk hpk' HE HIN HIN' hlo1 hlo2
    generalize P3.eqB l[k].p m[k].p = SC at *
    generalize l[k] = p at *
    generalize m[k] = q at *
    clear hlt hlt'
    obtain ⟨x0, x1, x2, x3, x4, x5, xa, xc, xs⟩ := p
    obtain ⟨y0, y1, y2, y3, y4, y5, ya, yc, ys⟩ := q
    dsimp only [M3.flat] at *
    have i1 : (0 : Int) ≤ (k : Int) := by omega
    have i2 : (k : Int) < (n : Int) := by omega
    have HFA := Lib.hid (((Fresh.refl wr).alloc (.cells #[.string x0, .string x1, .string x2, .int .i64 x3, .int .i64 x4, .bool x5, .slice xa xs.length xc] 93)).alloc (.cells #[.string y0, .string y1, .string y2, .int .i64 y3, .int .i64 y4, .bool y5, .slice ya ys.length yc] 93))
    have HC2 := Lib.hid (HCALL.out _ HFA.out)
    clear HCALL
    cases SC with
    | false =>
      have HR : Hid (R = false) := by rw [Hid, HST.out]; rfl
      clear HST
      go_wp2_with (fail)
      all_goals try (exfalso; omega)
      refine HC2.out.mono ?_
      rintro e W1 ⟨rfl, hf⟩
      have HF2 := Lib.hid ((HF.out.trans HFA.out).trans hf)
      clear hf
      go_wp2
      all_goals try (exfalso; omega)
      go_ret
      exact ⟨ret_bool HR.out.symm, HF2.out⟩
    | true =>
      have HN : Hid (R = eq3 ((pods3 l).drop (k + 1)) ((pods3 m).drop (k + 1))) := by rw [Hid, HST.out]; rfl
      clear HST
      go_wp2_with (fail)
      all_goals try (exfalso; omega)
      refine HC2.out.mono ?_
      rintro e W1 ⟨rfl, hf⟩
      have HF2 := Lib.hid ((HF.out.trans HFA.out).trans hf)
      clear hf
      go_wp2
      all_goals try (exfalso; omega)
      go_roundw
      case rel => exact ⟨k + 1, by simp, by omega, HN.out, HF2.out⟩
      case measure => simp [intOf]; omega
  case neg =>
    obtain rfl : k = n := by omega
    have HR : Hid (R = true) := by rw [Hid, HE.out, List.drop_of_length_le (by rw [HPL.out.1]; exact Nat.le_refl _), List.drop_of_length_le (by rw [HPL.out.2]; exact Nat.le_refl _)]; rfl
    go_wp2
    all_goals try (exfalso; omega)
    go_ret
    exact ⟨ret_bool HR.out.symm, HF.out⟩
set_option maxHeartbeats 4000000 in
theorem csame3_any (s t : Int) (l m : List M3) (a a' : Option Addr) (cap cap' : Nat) (w : World) (ha : Row3 w a l) (ha' : Row3 w a' m) (hl : l.length ≤ 4000000) (hlo : ∀ x ∈ l, x.m.Low) (hlo' : ∀ x ∈ m, x.m.Low) :
    Calls Tryz.prog 20 #[st3 s a l.length cap, st3 t a' m.length cap'] w fun e w' => e = .returned (.bool (same3 s t (pods3 l) (pods3 m))) ∧ Fresh w w' := by
  have HE : Hid (same3 s t (pods3 l) (pods3 m) = (decide (s = t) && eq3 (pods3 l) (pods3 m))) := rfl
  have HX := Lib.hid (two_boxes w (.cells #[.int .u64 s, .slice a l.length cap] 25) (.cells #[.int .u64 t, .slice a' m.length cap'] 25))
  have HEF := Lib.hid (eqFunc3_any l m a a' cap cap' _ (ha.move HX.out.2.2.1) (ha'.move HX.out.2.2.1) hl hlo hlo')
  have HF := Lib.hid HX.out.2.2.1
  clear HX ha ha' hl hlo hlo'
  dsimp only [st3]
  generalize same3 s t (pods3 l) (pods3 m) = R at *
  generalize eq3 (pods3 l) (pods3 m) = SL at *
  by_cases hs : s = t
  case neg =>
    have HR : Hid (R = false) := by rw [Hid, HE.out, decide_eq_false hs]; rfl
    have e0 : (s == t) = false := by rw [beq_eq_false_iff_ne]; exact hs
    clear HEF HE
    go_enter Tryz.func20, Tryz.ntmps20
    go_wp2
    go_ret
    exact ⟨ret_bool HR.out.symm, HF.out⟩
  subst hs
  have HR : Hid (R = SL) := by rw [Hid, HE.out]; simp
  clear HE
  go_enter Tryz.func20, Tryz.ntmps20
  go_wp2_with (fail)
  refine HEF.out.mono ?_
  rintro e W1 ⟨rfl, hf⟩
  have hf := Lib.hid (HF.out.trans hf)
  go_wp2
  go_ret
  exact ⟨ret_bool HR.out.symm, hf.out⟩
end Go.Proofs.YtldncgelghcjeaaGreatDoor.K
namespace Go.Proofs.YtldncgelghcjeaaGreatDoor.K
open Go.ChangeShapes Go.WideShapes Go.ChangeAt Go.RowKit
set_option maxRecDepth 100000

theorem up2_lo {p : P2} (h : p.Sm) : (up2 p).Lo where
  file := h.1.file
  name := h.1.name
  ns := h.1.ns
  ir := lit_wf1 h.1.r0 (by have := h.1.r1; show p.r < _; omega)
  ig := lit_wf1 h.1.g0 (by have := h.1.g1; show p.g < _; omega)
  len := by show (p.cs.map upC).length ≤ _; rw [List.length_map]; exact h.2
  cs := fun c hc => by
    obtain ⟨d, hd, rfl⟩ := List.mem_map.1 (show c ∈ p.cs.map upC from hc)
    exact upC_low (h.1.cs d hd)
theorem dn_sm {p : P3} (h : p.Lo) : (dn p).Sm :=
  ⟨⟨h.file, h.name, h.ns, by show 0 ≤ p.pd.restart % 256; omega, by show p.pd.restart % 256 ≤ 255; omega, by show 0 ≤ p.pd.grace % 65536; omega, by show p.pd.grace % 65536 ≤ 65535; omega, fun c hc => by
    obtain ⟨d, hd, rfl⟩ := List.mem_map.1 (show c ∈ p.pd.cs.map dnC from hc)
    exact ⟨(h.cs d hd).name, (h.cs d hd).image⟩⟩, by show (p.pd.cs.map dnC).length ≤ _; rw [List.length_map]; exact h.len⟩
theorem mapS2 {L : List P2} (h : ∀ p ∈ L, p.Sm) : ∀ p ∈ L.map up2, p.Lo := fun p hp => by
  obtain ⟨q, hq, rfl⟩ := List.mem_map.1 hp
  exact up2_lo (h q hq)
theorem mapS3 {L : List P3} (h : ∀ p ∈ L, p.Lo) : ∀ p ∈ L.map dn, p.Sm := fun p hp => by
  obtain ⟨q, hq, rfl⟩ := List.mem_map.1 hp
  exact dn_sm (h q hq)
theorem csame3_at (s t : Int) (L M : List P3) (a a' : Option Addr) (c c' : Nat) (w : World) (h : AtL L w a) (h' : AtL M w a') (hl : L.length ≤ 1048576) (hlo : ∀ p ∈ L, p.Lo) (hlo' : ∀ p ∈ M, p.Lo) :
    Calls Tryz.prog 20 #[st3 s a L.length c, st3 t a' M.length c'] w fun e w' => e = .returned (.bool (same3 s t L M)) ∧ Fresh w w' := by
  obtain ⟨D, rfl, hr⟩ := h
  obtain ⟨E, rfl, hr'⟩ := h'
  rw [pods3_length] at hl ⊢
  rw [pods3_length]
  exact csame3_any s t D E a a' c c' w hr hr' (by omega) (fun m hm => (hlo _ (pods3_mem hm)).low) (fun m hm => (hlo' _ (pods3_mem hm)).low)
/-- A row of pods that was made: in memory of its own, from block N on. -/
def MadeP (L : List P2) (N : Nat) (W : World) (o : Option Addr) (n cp : Nat) : Prop := ∃ D : List M2, pods2 D = L ∧ W.ownsRow N 158 6 (.slice o n cp) n (m2s D) ∧ ∀ x ∈ D, x.OwnC N W
def MadeT (L : List P3) (N : Nat) (W : World) (o : Option Addr) (n cp : Nat) : Prop := ∃ D : List M3, pods3 D = L ∧ W.ownsRow N 93 7 (.slice o n cp) n (m3s D) ∧ ∀ x ∈ D, x.OwnC N W
theorem MadeP.set {L : List P2} {N : Nat} {W : World} {o : Option Addr} {n cp : Nat} (h : MadeP L N W o n cp) {z : Nat} (hz : z < N) (i : Nat) (u : Value) : MadeP L N (W.setCell ⟨z, i, none⟩ u) o n cp := by
  obtain ⟨D, h1, h2, h3⟩ := h
  exact ⟨D, h1, own_set (p := ⟨z, i, none⟩) h2 hz u, fun x hx => own_set (p := ⟨z, i, none⟩) (h3 x hx) hz u⟩
theorem MadeT.set {L : List P3} {N : Nat} {W : World} {o : Option Addr} {n cp : Nat} (h : MadeT L N W o n cp) {z : Nat} (hz : z < N) (i : Nat) (u : Value) : MadeT L N (W.setCell ⟨z, i, none⟩ u) o n cp := by
  obtain ⟨D, h1, h2, h3⟩ := h
  exact ⟨D, h1, own_set (p := ⟨z, i, none⟩) h2 hz u, fun x hx => ⟨own_set (p := ⟨z, i, none⟩) (h3 x hx).1 hz u, (h3 x hx).2⟩⟩
theorem MadeP.mono {L : List P2} {N N' : Nat} {W : World} {o : Option Addr} {n cp : Nat} (h : MadeP L N W o n cp) (hn : N' ≤ N) : MadeP L N' W o n cp := by
  obtain ⟨D, h1, h2, h3⟩ := h
  exact ⟨D, h1, World.ownsRow.mono h2 hn, fun x hx => (h3 x hx).mono hn⟩
theorem MadeT.mono {L : List P3} {N N' : Nat} {W : World} {o : Option Addr} {n cp : Nat} (h : MadeT L N W o n cp) (hn : N' ≤ N) : MadeT L N' W o n cp := by
  obtain ⟨D, h1, h2, h3⟩ := h
  exact ⟨D, h1, World.ownsRow.mono h2 hn, fun x hx => (h3 x hx).mono hn⟩
theorem MadeP.fresh {L : List P2} {N : Nat} {W W' : World} {o : Option Addr} {n cp : Nat} (h : MadeP L N W o n cp) (f : Fresh W W') : MadeP L N W' o n cp := by
  obtain ⟨D, h1, h2, h3⟩ := h
  exact ⟨D, h1, own_fresh h2 f, fun x hx => (h3 x hx).fresh f⟩
theorem MadeT.fresh {L : List P3} {N : Nat} {W W' : World} {o : Option Addr} {n cp : Nat} (h : MadeT L N W o n cp) (f : Fresh W W') : MadeT L N W' o n cp := by
  obtain ⟨D, h1, h2, h3⟩ := h
  exact ⟨D, h1, own_fresh h2 f, fun x hx => (h3 x hx).fresh f⟩
theorem MadeP.at {L : List P2} {N : Nat} {W : World} {o : Option Addr} {n cp : Nat} (h : MadeP L N W o n cp) : AtP L W o := by
  obtain ⟨D, h1, h2, h3⟩ := h
  exact ⟨D, h1, RowAt.owns h2, fun x hx => (h3 x hx).inn⟩
theorem MadeT.at {L : List P3} {N : Nat} {W : World} {o : Option Addr} {n cp : Nat} (h : MadeT L N W o n cp) : AtL L W o := by
  obtain ⟨D, h1, h2, h3⟩ := h
  exact ⟨D, h1, RowAt.owns h2, fun x hx => (h3 x hx).inn⟩
theorem wrap_u64u {v : Int} (h0 : 0 ≤ v) (h1 : v ≤ 18446744073709551615) : IntKind.u64.wrap v = v := by simp [IntKind.wrap, IntKind.signed, IntKind.bits]; omega
set_option maxHeartbeats 4000000 in
theorem two_any (seq : Int) (a : Option Addr) (l : List P1) (c : Nat) (w : World) (h : RowAt w a (p1s l)) (hl : l.length ≤ 1048576) (hs0 : 0 ≤ seq) (hs1 : seq ≤ 4294967295) :
    Calls Tryz.prog 30 #[st1 seq a l.length c] w fun e w' => ∃ o cp, e = .returned (st2 seq o l.length cp) ∧ MadeP (l.map up1) w.heap.size w' o l.length cp ∧ Fresh w w' := by
  have hwr := wrap_u64u hs0 (by omega)
  have HX := Lib.hid (two_boxes w (.cells #[.int .u32 seq, .slice a l.length c] 63) (.cells #[.int .u64 0, .slice none 0 0] 66))
  have HE : Hid (∀ W, Fresh w W → Calls Tryz.prog 71 #[.slice a l.length c, .func (.func 72) #[] #[]] W fun e w' => ∃ o cp, e = .returned (.slice o l.length cp) ∧ MadeP (l.map up1) W.heap.size w' o l.length cp ∧ Fresh W w') := fun W fr => (eachA_any a l c W (h.move fr) (by omega)).mono (fun e w' ⟨o, cp, D, h1, h2, h3, h4, h5, h6⟩ => ⟨o, cp, h1, ⟨D, h3, h4, h5⟩, h6⟩)
  clear h
  dsimp only [st1, st2, st3] at *
  go_enter Tryz.func30, Tryz.ntmps30
  go_wp2_with (fail)
  obtain ⟨hx1, hx2, hx3, hx4⟩ := HX.out
  generalize ((w.alloc (.cells #[.int .u32 seq, .slice a l.length c] 63)).alloc (.cells #[.int .u64 0, .slice none 0 0] 66)) = W0 at *
  have HF0 := Lib.hid hx3
  have HS0 := Lib.hid hx4
  obtain ⟨y, hy⟩ : ∃ y, y = w.heap.size := ⟨_, rfl⟩
  have HYW := Lib.hid hy
  rw [← hy] at hx1 hx2 HS0 ⊢
  clear hy
  have HKP : Hid (∀ W, Fresh W0 W → (W.cell? ⟨y, 0, none⟩ = some (.int .u32 seq) ∧ W.cell? ⟨y, 1, none⟩ = some (.slice a l.length c)) ∧ W.heap[y + 1]? = some (.cells #[.int .u64 0, .slice none 0 0] 66)) := fun W fr => ⟨⟨cell_of_at (fr.at hx1) (i := 0) rfl, cell_of_at (fr.at hx1) (i := 1) rfl⟩, fr.at hx2⟩
  clear hx1 hx2 hx3 hx4 HX
  obtain ⟨⟨q0, q1⟩, hz⟩ := HKP.out W0 (.refl _)
  clear hz
  have HK : Hid (Fresh W0 W0.drew) := (Fresh.refl W0).drew
  go_region_held3 (fun w' => (w'.cell? ⟨y, 0, none⟩ = some (.int .u32 seq) ∧ w'.cell? ⟨y, 1, none⟩ = some (.slice a l.length c))) (first | (refine ⟨?_, ?_⟩ <;> exact cell_set_ne (cell_set_ne (by assumption) (by omega)) (by omega)) | go_keep)
    (first | (go_at_call 71; (with_reducible refine (HE.out _ (HF0.out.trans HK.out)).mono ?_); rintro e W2 ⟨o, cp, rfl, hown, hf⟩; have HOWN := Lib.hid hown; have HSZ := Lib.hid (Nat.le_trans (Nat.le_of_eq HS0.out.symm) HK.out.size); have HK := Lib.hid (HK.out.trans hf); clear hf hown q0 q1; obtain ⟨⟨q0, q1⟩, hz⟩ := HKP.out _ HK.out; have z0 := cell_of_at hz (i := 0) rfl; have z1 := cell_of_at hz (i := 1) rfl; have f0 := frozen_of_at hz 0; have f1 := frozen_of_at hz 1; have HZ := Lib.hid hz; clear hz))
  all_goals go_wp2
  have hp := at_set (at_set HZ.out 0 (.int .u64 seq)) 1 (.slice o l.length cp)
  simp only [List.setIfInBounds_toArray, List.set_cons_zero, List.set_cons_succ] at hp
  have r0 := cell_of_at hp (i := 0) rfl
  have r1 := cell_of_at hp (i := 1) rfl
  clear hp
  refine bodyPost_ret (v := .agg #[.int .u64 seq, .slice o l.length cp]) (by simp [results, Tryz.results30, go_sem, *]) rfl ⟨o, cp, rfl, ?_, ?_⟩
  · exact ((HOWN.out.set (z := y + 1) (by have := HSZ.out; omega) 0 _).set (z := y + 1) (by have := HSZ.out; omega) 1 _).mono (by have := HYW.out; have := HSZ.out; omega)
  · exact ((HF0.out.trans HK.out).setCell (p := ⟨y + 1, 0, none⟩) (by have := HYW.out; show _ ≤ y + 1; omega) _).setCell (p := ⟨y + 1, 1, none⟩) (by have := HYW.out; show _ ≤ y + 1; omega) _
set_option maxHeartbeats 4000000 in
theorem three_any (seq : Int) (a : Option Addr) (L : List P2) (c : Nat) (w : World) (h : AtP L w a) (hl : L.length ≤ 1048576) (hlo : ∀ p ∈ L, p.Sm) :
    Calls Tryz.prog 32 #[st2 seq a L.length c] w fun e w' => ∃ o cp, e = .returned (st3 seq o L.length cp) ∧ MadeT (L.map up2) w.heap.size w' o L.length cp ∧ Fresh w w' := by
  have HX := Lib.hid (two_boxes w (.cells #[.int .u64 seq, .slice a L.length c] 66) (.cells #[.int .u64 0, .slice none 0 0] 25))
  have HX3 := Lib.hid (at_new ((w.alloc (.cells #[.int .u64 seq, .slice a L.length c] 66)).alloc (.cells #[.int .u64 0, .slice none 0 0] 25)) (.cells #[.func (.func 73) #[] #[]] 168))
  have HE : Hid (∀ W, Fresh w W → ∀ {b : Nat}, W.cell? ⟨b, 0, none⟩ = some (.func (.func 73) #[] #[]) → Calls Tryz.prog 74 #[.slice a L.length c, .func (.func 75) #[] #[.pointer (some ⟨b, 0, none⟩)]] W fun e w' => ∃ o cp, e = .returned (.slice o L.length cp) ∧ MadeT (L.map up2) W.heap.size w' o L.length cp ∧ Fresh W w') := fun W fr b hb => by
    obtain ⟨D, rfl, hr⟩ := h
    rw [pods2_length] at hl ⊢
    refine (eachB_any a D c W b (hr.row.move fr) (by omega) (fun x hx => (hr.ins x hx).move fr) (fun x hx => Nat.le_trans (hlo _ (pods2_mem hx)).2 (by decide)) (fun x hx => (hlo _ (pods2_mem hx)).num) hb).mono (fun e w' ⟨o, cp, E, h1, h2, h3, h4, h5, h6⟩ => ⟨o, cp, h1, ⟨E, ?_, h4, h5⟩, h6⟩)
    rw [h3, pods2, List.map_map]; rfl
  clear h
  dsimp only [st1, st2, st3] at *
  go_enter Tryz.func32, Tryz.ntmps32
  go_wp2_with (fail)
  obtain ⟨hx1, hx2, hx3, hx4⟩ := HX.out
  have hc := HX3.out
  rw [World.size_alloc, World.size_alloc] at hc
  have hx1 := at_alloc (p := .cells #[.func (.func 73) #[] #[]] 168) hx1
  have hx2 := at_alloc (p := .cells #[.func (.func 73) #[] #[]] 168) hx2
  have hx3 := hx3.alloc (.cells #[.func (.func 73) #[] #[]] 168)
  have hx4 : ((((w.alloc (.cells #[.int .u64 seq, .slice a L.length c] 66)).alloc (.cells #[.int .u64 0, .slice none 0 0] 25)).alloc (.cells #[.func (.func 73) #[] #[]] 168))).heap.size = w.heap.size + 3 := by rw [World.size_alloc, hx4]
  generalize (((w.alloc (.cells #[.int .u64 seq, .slice a L.length c] 66)).alloc (.cells #[.int .u64 0, .slice none 0 0] 25)).alloc (.cells #[.func (.func 73) #[] #[]] 168)) = W0 at *
  have HF0 := Lib.hid hx3
  have HS0 := Lib.hid hx4
  obtain ⟨y, hy⟩ : ∃ y, y = w.heap.size := ⟨_, rfl⟩
  have HYW := Lib.hid hy
  rw [← hy] at hx1 hx2 HS0 hc ⊢
  clear hy
  have HKP : Hid (∀ W, Fresh W0 W → (W.cell? ⟨y, 0, none⟩ = some (.int .u64 seq) ∧ W.cell? ⟨y, 1, none⟩ = some (.slice a L.length c)) ∧ W.heap[y + 1]? = some (.cells #[.int .u64 0, .slice none 0 0] 25) ∧ W.cell? ⟨y + 2, 0, none⟩ = some (.func (.func 73) #[] #[])) := fun W fr => ⟨⟨cell_of_at (fr.at hx1) (i := 0) rfl, cell_of_at (fr.at hx1) (i := 1) rfl⟩, fr.at hx2, cell_of_at (fr.at hc) (i := 0) rfl⟩
  clear hx1 hx2 hx3 hx4 HX HX3 hc
  obtain ⟨⟨q0, q1⟩, hz, hcc⟩ := HKP.out W0 (.refl _)
  clear hz hcc
  have HK : Hid (Fresh W0 W0.drew) := (Fresh.refl W0).drew
  go_region_held3 (fun w' => (w'.cell? ⟨y, 0, none⟩ = some (.int .u64 seq) ∧ w'.cell? ⟨y, 1, none⟩ = some (.slice a L.length c))) (first | (refine ⟨?_, ?_⟩ <;> exact cell_set_ne (cell_set_ne (by assumption) (by omega)) (by omega)) | go_keep)
    (first | (go_at_call 74; (with_reducible refine (HE.out _ (HF0.out.trans HK.out) (HKP.out _ HK.out).2.2).mono ?_); rintro e W2 ⟨o, cp, rfl, hown, hf⟩; have HOWN := Lib.hid hown; have HSZ := Lib.hid (Nat.le_trans (Nat.le_of_eq HS0.out.symm) HK.out.size); have HK := Lib.hid (HK.out.trans hf); clear hf hown q0 q1; obtain ⟨⟨q0, q1⟩, hz, hcc⟩ := HKP.out _ HK.out; have z0 := cell_of_at hz (i := 0) rfl; have z1 := cell_of_at hz (i := 1) rfl; have f0 := frozen_of_at hz 0; have f1 := frozen_of_at hz 1; have HZ := Lib.hid hz; clear hz hcc))
  all_goals go_wp2
  have hp := at_set (at_set HZ.out 0 (.int .u64 seq)) 1 (.slice o L.length cp)
  simp only [List.setIfInBounds_toArray, List.set_cons_zero, List.set_cons_succ] at hp
  have r0 := cell_of_at hp (i := 0) rfl
  have r1 := cell_of_at hp (i := 1) rfl
  clear hp
  refine bodyPost_ret (v := .agg #[.int .u64 seq, .slice o L.length cp]) (by simp [results, Tryz.results32, go_sem, *]) rfl ⟨o, cp, rfl, ?_, ?_⟩
  · exact ((HOWN.out.set (z := y + 1) (by have := HSZ.out; omega) 0 _).set (z := y + 1) (by have := HSZ.out; omega) 1 _).mono (by have := HYW.out; have := HSZ.out; omega)
  · exact ((HF0.out.trans HK.out).setCell (p := ⟨y + 1, 0, none⟩) (by have := HYW.out; show _ ≤ y + 1; omega) _).setCell (p := ⟨y + 1, 1, none⟩) (by have := HYW.out; show _ ≤ y + 1; omega) _
set_option maxHeartbeats 4000000 in
theorem old_any (seq : Int) (a : Option Addr) (L : List P3) (c : Nat) (w : World) (h : AtL L w a) (hl : L.length ≤ 1048576) (hlo : ∀ p ∈ L, p.Lo) :
    Calls Tryz.prog 77 #[st3 seq a L.length c] w fun e w' => ∃ o cp, e = .returned (st2 seq o L.length cp) ∧ MadeP (L.map dn) w.heap.size w' o L.length cp ∧ Fresh w w' := by
  have HX := Lib.hid (two_boxes w (.cells #[.int .u64 seq, .slice a L.length c] 25) (.cells #[.int .u64 0, .slice none 0 0] 66))
  have HX3 := Lib.hid (at_new ((w.alloc (.cells #[.int .u64 seq, .slice a L.length c] 25)).alloc (.cells #[.int .u64 0, .slice none 0 0] 66)) (.cells #[.func (.func 106) #[] #[]] 193))
  have HE : Hid (∀ W, Fresh w W → ∀ {b : Nat}, W.cell? ⟨b, 0, none⟩ = some (.func (.func 106) #[] #[]) → Calls Tryz.prog 107 #[.slice a L.length c, .func (.func 108) #[] #[.pointer (some ⟨b, 0, none⟩)]] W fun e w' => ∃ o cp, e = .returned (.slice o L.length cp) ∧ MadeP (L.map dn) W.heap.size w' o L.length cp ∧ Fresh W w') := fun W fr b hb => by
    obtain ⟨D, rfl, hr⟩ := h
    rw [pods3_length] at hl ⊢
    refine (eachE_any a D c W b (hr.row.move fr) (by omega) (fun x hx => (hr.ins x hx).move fr) (fun x hx => Nat.le_trans (hlo _ (pods3_mem hx)).low.len (by decide)) hb).mono (fun e w' ⟨o, cp, E, h1, h2, h3, h4, h5, h6⟩ => ⟨o, cp, h1, ⟨E, ?_, h4, h5⟩, h6⟩)
    rw [h3, pods3, List.map_map]; rfl
  clear h
  dsimp only [st1, st2, st3] at *
  go_enter Tryz.func77, Tryz.ntmps77
  go_wp2_with (fail)
  obtain ⟨hx1, hx2, hx3, hx4⟩ := HX.out
  have hc := HX3.out
  rw [World.size_alloc, World.size_alloc] at hc
  have hx1 := at_alloc (p := .cells #[.func (.func 106) #[] #[]] 193) hx1
  have hx2 := at_alloc (p := .cells #[.func (.func 106) #[] #[]] 193) hx2
  have hx3 := hx3.alloc (.cells #[.func (.func 106) #[] #[]] 193)
  have hx4 : ((((w.alloc (.cells #[.int .u64 seq, .slice a L.length c] 25)).alloc (.cells #[.int .u64 0, .slice none 0 0] 66)).alloc (.cells #[.func (.func 106) #[] #[]] 193))).heap.size = w.heap.size + 3 := by rw [World.size_alloc, hx4]
  generalize (((w.alloc (.cells #[.int .u64 seq, .slice a L.length c] 25)).alloc (.cells #[.int .u64 0, .slice none 0 0] 66)).alloc (.cells #[.func (.func 106) #[] #[]] 193)) = W0 at *
  have HF0 := Lib.hid hx3
  have HS0 := Lib.hid hx4
  obtain ⟨y, hy⟩ : ∃ y, y = w.heap.size := ⟨_, rfl⟩
  have HYW := Lib.hid hy
  rw [← hy] at hx1 hx2 HS0 hc ⊢
  clear hy
  have HKP : Hid (∀ W, Fresh W0 W → (W.cell? ⟨y, 0, none⟩ = some (.int .u64 seq) ∧ W.cell? ⟨y, 1, none⟩ = some (.slice a L.length c)) ∧ W.heap[y + 1]? = some (.cells #[.int .u64 0, .slice none 0 0] 66) ∧ W.cell? ⟨y + 2, 0, none⟩ = some (.func (.func 106) #[] #[])) := fun W fr => ⟨⟨cell_of_at (fr.at hx1) (i := 0) rfl, cell_of_at (fr.at hx1) (i := 1) rfl⟩, fr.at hx2, cell_of_at (fr.at hc) (i := 0) rfl⟩
  clear hx1 hx2 hx3 hx4 HX HX3 hc
  obtain ⟨⟨q0, q1⟩, hz, hcc⟩ := HKP.out W0 (.refl _)
  clear hz hcc
  have HK : Hid (Fresh W0 W0.drew) := (Fresh.refl W0).drew
  go_region_held3 (fun w' => (w'.cell? ⟨y, 0, none⟩ = some (.int .u64 seq) ∧ w'.cell? ⟨y, 1, none⟩ = some (.slice a L.length c))) (first | (refine ⟨?_, ?_⟩ <;> exact cell_set_ne (cell_set_ne (by assumption) (by omega)) (by omega)) | go_keep)
    (first | (go_at_call 107; (with_reducible refine (HE.out _ (HF0.out.trans HK.out) (HKP.out _ HK.out).2.2).mono ?_); rintro e W2 ⟨o, cp, rfl, hown, hf⟩; have HOWN := Lib.hid hown; have HSZ := Lib.hid (Nat.le_trans (Nat.le_of_eq HS0.out.symm) HK.out.size); have HK := Lib.hid (HK.out.trans hf); clear hf hown q0 q1; obtain ⟨⟨q0, q1⟩, hz, hcc⟩ := HKP.out _ HK.out; have z0 := cell_of_at hz (i := 0) rfl; have z1 := cell_of_at hz (i := 1) rfl; have f0 := frozen_of_at hz 0; have f1 := frozen_of_at hz 1; have HZ := Lib.hid hz; clear hz hcc))
  all_goals go_wp2
  have hp := at_set (at_set HZ.out 0 (.int .u64 seq)) 1 (.slice o L.length cp)
  simp only [List.setIfInBounds_toArray, List.set_cons_zero, List.set_cons_succ] at hp
  have r0 := cell_of_at hp (i := 0) rfl
  have r1 := cell_of_at hp (i := 1) rfl
  clear hp
  refine bodyPost_ret (v := .agg #[.int .u64 seq, .slice o L.length cp]) (by simp [results, Tryz.results77, go_sem, *]) rfl ⟨o, cp, rfl, ?_, ?_⟩
  · exact ((HOWN.out.set (z := y + 1) (by have := HSZ.out; omega) 0 _).set (z := y + 1) (by have := HSZ.out; omega) 1 _).mono (by have := HYW.out; have := HSZ.out; omega)
  · exact ((HF0.out.trans HK.out).setCell (p := ⟨y + 1, 0, none⟩) (by have := HYW.out; show _ ≤ y + 1; omega) _).setCell (p := ⟨y + 1, 1, none⟩) (by have := HYW.out; show _ ≤ y + 1; omega) _
end Go.Proofs.YtldncgelghcjeaaGreatDoor.K
namespace Go.Proofs.YtldncgelghcjeaaGreatDoor.K
open Go.ChangeShapes Go.WideShapes Go.ChangeAt Go.RowKit
set_option maxRecDepth 100000

set_option maxHeartbeats 4000000 in
theorem both_any (seq : Int) (a : Option Addr) (l : List P1) (c : Nat) (w : World) (h : RowAt w a (p1s l)) (hl : l.length ≤ 1048576) (hf : ∀ p ∈ l, p.Fit 1048576) (hs0 : 0 ≤ seq) (hs1 : seq ≤ 4294967295) :
    Calls Tryz.prog 34 #[st1 seq a l.length c] w fun e w' => ∃ o cp, e = .returned (st3 seq o l.length cp) ∧ AtL ((l.map up1).map up2) w' o ∧ Fresh w w' := by
  have HX := Lib.hid (two_boxes w (.cells #[.int .u32 seq, .slice a l.length c] 63) (.cells #[.int .u64 0, .slice none 0 0] 25))
  have H2 := Lib.hid (fun W (fr : Fresh w W) => two_any seq a l c W (h.move fr) hl hs0 hs1)
  have H3 : Hid (∀ W o cp, AtP (l.map up1) W o → Calls Tryz.prog 32 #[.agg #[.int .u64 seq, .slice o l.length cp]] W fun e w' => ∃ o cp, e = .returned (.agg #[.int .u64 seq, .slice o l.length cp]) ∧ MadeT ((l.map up1).map up2) W.heap.size w' o l.length cp ∧ Fresh W w') := fun W o cp hp => by
    have := three_any seq o (l.map up1) cp W hp (by rw [List.length_map]; exact hl) (mapS1 hf)
    rw [List.length_map] at this
    exact this
  clear h hf
  dsimp only [st1, st2, st3] at *
  go_enter Tryz.func34, Tryz.ntmps34
  go_wp2_with (fail)
  refine (H2.out _ HX.out.2.2.1).mono ?_
  rintro e w1 ⟨o, cp, rfl, hp, hf1⟩
  have HP := Lib.hid hp.at
  have HF1 := Lib.hid hf1
  clear hp hf1
  go_wp2_with (fail)
  refine (H3.out _ o cp HP.out).mono ?_
  rintro e w2 ⟨o2, cp2, rfl, hq, hf2⟩
  have HQ := Lib.hid hq
  have HF2 := Lib.hid (HF1.out.trans hf2)
  have hz := HF2.out.at HX.out.2.1
  have hsz : w.heap.size + 1 < w1.heap.size := by
    have h1 := HX.out.2.2.2
    have h2 := HF1.out.size
    omega
  have z0 := cell_of_at hz (i := 0) rfl
  have z1 := cell_of_at hz (i := 1) rfl
  have f0 := frozen_of_at hz 0
  have f1 := frozen_of_at hz 1
  have hp := at_set (at_set hz 0 (.int .u64 seq)) 1 (.slice o2 l.length cp2)
  simp only [List.setIfInBounds_toArray, List.set_cons_zero, List.set_cons_succ] at hp
  have r0 := cell_of_at hp (i := 0) rfl
  have r1 := cell_of_at hp (i := 1) rfl
  clear hp hz hq hf2
  go_wp2
  refine bodyPost_ret (v := .agg #[.int .u64 seq, .slice o2 l.length cp2]) (by simp [results, Tryz.results34, go_sem, *]) rfl ⟨o2, cp2, rfl, ?_, ?_⟩
  · exact ((HQ.out.set (z := w.heap.size + 1) (by omega) 0 _).set (z := w.heap.size + 1) (by omega) 1 _).at
  · exact ((HX.out.2.2.1.trans HF2.out).setCell (p := ⟨w.heap.size + 1, 0, none⟩) (by show _ ≤ w.heap.size + 1; omega) _).setCell (p := ⟨w.heap.size + 1, 1, none⟩) (by show _ ≤ w.heap.size + 1; omega) _
/-- What Down answers. -/
def DownIs (M : Bool) (seq : Int) (L : List P3) (w : World) (e : Ending) (w' : World) : Prop :=
  (M = true ∧ ∃ o cp, e = .returned (.tuple #[st2 seq o L.length cp, .bool true]) ∧ AtP (L.map dn) w' o ∧ Fresh w w') ∨ (M = false ∧ e = .returned (.tuple #[st2 0 none 0 0, .bool false]) ∧ Fresh w w')
set_option maxHeartbeats 8000000 in
theorem down_c (seq : Int) (a : Option Addr) (L : List P3) (c : Nat) (w : World) (h : AtL L w a) (hl : L.length ≤ 1048576) (hlo : ∀ p ∈ L, p.Lo) :
    Calls Tryz.prog 35 #[st3 seq a L.length c] w (DownIs (L.all may) seq L w) := by
  have HX := Lib.hid (two_boxes w (.cells #[.int .u64 seq, .slice a L.length c] 25) (.cells #[.int .u64 0, .slice none 0 0] 66))
  have H1 := Lib.hid (fun W (fr : Fresh w W) => old_any seq a L c W (h.move fr) hl hlo)
  have H2 : Hid (∀ W o cp, AtP (L.map dn) W o → Calls Tryz.prog 32 #[.agg #[.int .u64 seq, .slice o L.length cp]] W fun e w' => ∃ o cp, e = .returned (.agg #[.int .u64 seq, .slice o L.length cp]) ∧ AtL ((L.map dn).map up2) w' o ∧ Fresh W w') := fun W o cp hp => by
    have := three_any seq o (L.map dn) cp W hp (by rw [List.length_map]; exact hl) (mapS3 hlo)
    rw [List.length_map] at this
    exact this.mono (fun e w' ⟨o, cp, h1, h2, h3⟩ => ⟨o, cp, h1, h2.at, h3⟩)
  have H3 : Hid (∀ W o cp, Fresh w W → AtL ((L.map dn).map up2) W o → Calls Tryz.prog 20 #[.agg #[.int .u64 seq, .slice o L.length cp], .agg #[.int .u64 seq, .slice a L.length c]] W fun e w' => e = .returned (.bool (L.all may)) ∧ Fresh W w') := fun W o cp fr hp => by
    have := csame3_at seq seq ((L.map dn).map up2) L o a cp c W hp (h.move fr) (by rw [List.length_map, List.length_map]; exact hl) (mapS2 (mapS3 hlo)) hlo
    rw [down_same, List.length_map, List.length_map] at this
    exact this
  clear h hlo
  generalize L.all may = M at *
  dsimp only [st1, st2, st3] at *
  go_enter Tryz.func35, Tryz.ntmps35
  go_wp2_with (fail)
  refine (H1.out _ HX.out.2.2.1).mono ?_
  rintro e w1 ⟨o, cp, rfl, hp, hf1⟩
  have HP := Lib.hid (hp.fresh ((Fresh.refl w1).alloc (.cells #[.int .u64 seq, .slice o L.length cp] 66)))
  have HF1 := Lib.hid (hf1.alloc (.cells #[.int .u64 seq, .slice o L.length cp] 66))
  have HB := Lib.hid (at_new w1 (.cells #[.int .u64 seq, .slice o L.length cp] 66))
  have HSZ : Hid (w.heap.size + 1 < ((w.alloc (.cells #[.int .u64 seq, .slice a L.length c] 25)).alloc (.cells #[.int .u64 0, .slice none 0 0] 66)).heap.size ∧ w.heap.size + 1 < w1.heap.size) := by
    have h1 := HX.out.2.2.2
    have h2 := hf1.size
    exact ⟨by omega, by omega⟩
  clear hp hf1
  go_wp2_with (fail)
  generalize hW1 : w1.alloc (.cells #[.int .u64 seq, .slice o L.length cp] 66) = W1 at *
  clear hW1
  obtain ⟨y, hy⟩ : ∃ y, y = w1.heap.size := ⟨_, rfl⟩
  obtain ⟨x, hx⟩ : ∃ x, x = w.heap.size := ⟨_, rfl⟩
  have HXW := Lib.hid hx
  have HKP : Hid (∀ W, Fresh W1 W → (W.cell? ⟨x, 0, none⟩ = some (.int .u64 seq) ∧ W.cell? ⟨x, 1, none⟩ = some (.slice a L.length c) ∧ W.cell? ⟨y, 0, none⟩ = some (.int .u64 seq) ∧ W.cell? ⟨y, 1, none⟩ = some (.slice o L.length cp)) ∧ W.heap[x + 1]? = some (.cells #[.int .u64 0, .slice none 0 0] 66)) := fun W fr => by
    have h1 := (HF1.out.trans fr).at HX.out.1
    have h2 := (HF1.out.trans fr).at HX.out.2.1
    have h3 := fr.at HB.out
    rw [← hx] at h1 h2
    rw [← hy] at h3
    exact ⟨⟨cell_of_at h1 (i := 0) rfl, cell_of_at h1 (i := 1) rfl, cell_of_at h3 (i := 0) rfl, cell_of_at h3 (i := 1) rfl⟩, h2⟩
  have HFW : Hid (Fresh w W1) := HX.out.2.2.1.trans HF1.out
  rw [← hy, ← hx]
  obtain ⟨⟨q0, q1, q2, q3⟩, hz⟩ := HKP.out W1 (.refl _)
  clear hz HB hy hx
  have HK : Hid (Fresh W1 W1.drew) := (Fresh.refl W1).drew
  go_region_held3 (fun w' => (w'.cell? ⟨x, 0, none⟩ = some (.int .u64 seq) ∧ w'.cell? ⟨x, 1, none⟩ = some (.slice a L.length c) ∧ w'.cell? ⟨y, 0, none⟩ = some (.int .u64 seq) ∧ w'.cell? ⟨y, 1, none⟩ = some (.slice o L.length cp))) (go_keep)
    (first
      | (go_at_call 32; (with_reducible refine (H2.out _ o cp (HP.out.fresh HK.out).at).mono ?_); rintro e W2 ⟨o2, cp2, rfl, hown, hf⟩; have HT := Lib.hid hown; have HK := Lib.hid (HK.out.trans hf); clear hf hown q0 q1 q2 q3; obtain ⟨⟨q0, q1, q2, q3⟩, hz⟩ := HKP.out _ HK.out; clear hz)
      | (go_at_call 20; (with_reducible refine (H3.out _ o2 cp2 (HFW.out.trans HK.out) HT.out).mono ?_); rintro e W2 ⟨rfl, hf⟩; have HK := Lib.hid (HK.out.trans hf); clear hf q0 q1 q2 q3; obtain ⟨⟨q0, q1, q2, q3⟩, hz⟩ := HKP.out _ HK.out; have HZ := Lib.hid hz; clear hz))
  clear q0 q1
  have z0 := cell_of_at HZ.out (i := 0) rfl
  have z1 := cell_of_at HZ.out (i := 1) rfl
  have f0 := frozen_of_at HZ.out 0
  have f1 := frozen_of_at HZ.out 1
  have hb1 : w.heap.size ≤ x + 1 := by have := HXW.out; omega
  have HFX := Lib.hid (HFW.out.trans HK.out)
  cases M with
  | true =>
    have hp := at_set (at_set HZ.out 0 (.int .u64 seq)) 1 (.slice o L.length cp)
    simp only [List.setIfInBounds_toArray, List.set_cons_zero, List.set_cons_succ] at hp
    have r0 := cell_of_at hp (i := 0) rfl
    have r1 := cell_of_at hp (i := 1) rfl
    clear hp
    go_wp2
    refine bodyPost_ret (v := .tuple #[.agg #[.int .u64 seq, .slice o L.length cp], .bool true]) (by simp [results, Tryz.results35, go_sem, *]) rfl (.inl ⟨rfl, o, cp, rfl, ?_, ?_⟩)
    · have hb := HSZ.out.1
      rw [← HXW.out] at hb
      exact (((HP.out.fresh HK.out).set (z := x + 1) hb 0 _).set (z := x + 1) hb 1 _).at
    · exact (HFX.out.setCell (p := ⟨x + 1, 0, none⟩) hb1 _).setCell (p := ⟨x + 1, 1, none⟩) hb1 _
  | false =>
    have hp := at_set (at_set HZ.out 0 (.int .u64 0)) 1 (.slice none 0 0)
    simp only [List.setIfInBounds_toArray, List.set_cons_zero, List.set_cons_succ] at hp
    have r0 := cell_of_at hp (i := 0) rfl
    have r1 := cell_of_at hp (i := 1) rfl
    clear hp
    go_wp2
    exact bodyPost_ret (v := .tuple #[.agg #[.int .u64 0, .slice none 0 0], .bool false]) (by simp [results, Tryz.results35, go_sem, *]) rfl (.inr ⟨rfl, rfl, (HFX.out.setCell (p := ⟨x + 1, 0, none⟩) hb1 _).setCell (p := ⟨x + 1, 1, none⟩) hb1 _⟩)
end Go.Proofs.YtldncgelghcjeaaGreatDoor.K
namespace Go.Proofs.YtldncgelghcjeaaGreatDoor.K
open Go.ChangeShapes Go.WideShapes Go.ChangeAt Go.RowKit
set_option maxRecDepth 100000

/-- Blocks that are no builder's stay. -/
def KeepsT (w w' : World) : Prop := ∀ (k : Nat) (cs : Array Value) (t : TypeId), w.heap[k]? = some (Obj.cells cs t) → t ≠ 5 → t ≠ 100 → w'.heap[k]? = some (Obj.cells cs t)
theorem KeepsT.refl (w : World) : KeepsT w w := fun _ _ _ h _ _ => h
theorem copy_any2 (B b : Nat) (l : List UInt8) (w : World) (h : Bld B b l w) :
    Calls Tryz.prog 131 #[.pointer (some ⟨b, 0, none⟩)] w fun e w' => e = .returned (.tuple #[]) ∧ (Lib.BuilderAt 100 5 B b (.pointer (some ⟨b, 0, none⟩)) (Lib.byteCells l) w' ∧ Below B w w' ∧ KeepsT w w') := by
  rcases h with h | h
  · obtain ⟨hB, v, hbk, _⟩ := id h
    refine (copy_fresh b w h.cell0 h.shape h.frozen0).mono ?_
    rintro e w' ⟨rfl, rfl⟩
    refine ⟨rfl, h.used _, (Below.refl B w).setCell (p := ⟨b, 0, none⟩) h.1 _, fun k cs t hk _ h2 => at_off hk (fun e => ?_) _⟩
    subst e
    rw [hbk] at hk
    cases hk
    exact h2 rfl
  · refine (copy_used b w h.cell0).mono ?_
    rintro e w' ⟨rfl, rfl⟩
    exact ⟨rfl, h, Below.refl B _, .refl _⟩
set_option maxHeartbeats 1000000 in
theorem write_any2 (B b : Nat) (l : List UInt8) (s : ByteArray) (w : World) (h : Bld B b l w) (hlen : l.length + s.size ≤ 140737488355328) (hBw : B ≤ w.heap.size) :
    Calls Tryz.prog 89 #[.pointer (some ⟨b, 0, none⟩), .string s] w fun e w' => e = .returned (.tuple #[.int .i64 s.size, .nilIface]) ∧ Bld B b (l ++ s.data.toList) w' ∧ Below B w w' ∧ KeepsT w w' := by
  obtain ⟨i0, hi, hz0, hz1, hz2⟩ := info_parts info5
  have HC := Lib.hid (copy_any2 B b l w h)
  have hl : (Lib.byteCells l).length = l.length := bytes_len l
  clear h
  go_enter Tryz.func89, Tryz.ntmps89
  go_wp2_with (fail)
  refine HC.out.mono ?_
  rintro e w1 ⟨rfl, h1, hb1, hk1⟩
  have HK1 := Lib.hid hk1
  obtain ⟨hB, v, hbk, hown, hne⟩ := h1
  have c0 : w1.cell? ⟨b, 0, none⟩ = some (.pointer (some ⟨b, 0, none⟩)) := by rw [Lib.cell_of_heap hbk]; rfl
  have c1 : w1.cell? ⟨b, 1, none⟩ = some v := by rw [Lib.cell_of_heap hbk]; rfl
  have hsz := hb1.size
  clear hk1
  go_wp2_with (at_builtin; refine Lib.wpList_append_own_string _ rfl _ _ 98 9 rfl B 5 i0 Tryz.underlying98 Tryz.underlying9 hi hz0 hz1 hz2 _ _ _ rfl hown s rfl ?c3 ?c4 ?c5 ?_)
  case c3 => unfold maxLen; omega
  case c4 => omega
  case c5 => omega
  intro v' w2 hown' hgrow _
  have hlt : b < w1.heap.size := lt_of_at hbk
  have hb2 : w2.heap[b]? = some (.cells #[.pointer (some ⟨b, 0, none⟩), v] 100 (0, 0)) := by
    rw [hgrow.block b hlt (fun e => hne e.symm)]
    exact hbk
  have HK2 : Hid (∀ u, KeepsT w (w2.setCell ⟨b, 1, none⟩ u)) := fun u k cs t hk n1 n2 => by
    have hk := HK1.out k cs t hk n1 n2
    have hkb : k ≠ b := fun e => by
      subst e
      rw [hbk] at hk
      cases hk
      exact n2 rfl
    refine at_off ((hgrow.block k (lt_of_at hk) (fun e => ?_)).trans hk) hkb _
    rcases hown.2 with ⟨rfl, _⟩ | ⟨g, cap, cur, rfl, _, hg, _⟩
    · cases e
    · have : k = g := by simpa [Value.ownBlock] using e
      subst this
      rw [hg] at hk
      cases hk
      exact n1 rfl
  have d0 : w2.cell? ⟨b, 0, none⟩ = some (.pointer (some ⟨b, 0, none⟩)) := by rw [Lib.cell_of_heap hb2]; rfl
  have d1 : w2.cell? ⟨b, 1, none⟩ = some v := by rw [Lib.cell_of_heap hb2]; rfl
  have f1 : w2.frozen? ⟨b, 1, none⟩ = false := Lib.frozen_of_heap hb2 1
  obtain ⟨ao, n', cap, rfl⟩ : ∃ ao n' cap, v' = .slice ao n' cap := by
    rcases hown'.2 with ⟨hv, _⟩ | ⟨g, cap, cur, hv, _⟩
    · exact ⟨_, _, _, hv⟩
    · exact ⟨_, _, _, hv⟩
  go_wp2
  go_ret2
  refine ⟨rfl, .inr ?_, ?_, HK2.out _⟩
  · refine Lib.BuilderAt.put (T := 100) (e := 5) hB hb2 (bs' := Lib.byteCells (l ++ s.data.toList)) ?_ (by decide)
    have := hown'
    rw [str_cells, bytes_app] at this
    rw [bytes_len, List.length_append]
    rw [← Lib.size_eq]
    exact this
  · exact (hb1.grown hgrow (by omega) (fun k hk => (hown.lt k hk).1)).setCell (p := ⟨b, 1, none⟩) hB _
end Go.Proofs.YtldncgelghcjeaaGreatDoor.K
