/-
  What is wrong with a pod, by the document.
  What is wrong with a state of version 3, by the document.
  The boxes of the document's Decode for version 3.
-/
import Derived.Test.YtldncgelghcjeaaGreatDoorCat16
import Derived.RegionTactic
import Derived.Deep.RegionHeld3
import Derived.Test.YtldncgelghcjeaaGreatDoorCat06
import Derived.Test.YtldncgelghcjeaaGreatDoorCat04
import Derived.Test.YtldncgelghcjeaaGreatDoorCat14
import Derived.Test.YtldncgelghcjeaaGreatDoorCat13
set_option linter.unusedSimpArgs false
set_option linter.unusedVariables false
namespace Go.Proofs.YtldncgelghcjeaaGreatDoor
open Go.ChangeShapes Go.WideShapes Go.ChangeAt Go.RowKit
attribute [local go_sem ↓] Go.wp_at_zero Go.wp_at_succ

theorem row_take {w : World} {a : Option Addr} {l : List CM} (h : RowAt w a (ccells l)) (k : Nat) : RowAt w a (ccells (l.take k)) := by
  by_cases h0 : l = []
  · subst h0; simpa using h
  · have hne : ccells l ≠ [] := ccells_ne (i := 0) (List.length_pos_iff.2 h0)
    obtain ⟨g, o, e, hc⟩ := h.form hne
    refine .inr ⟨g, o, e, fun j x hj => hc j x ?_⟩
    have hs : ccells l = ccells (l.take k) ++ ccells (l.drop k) := by
      unfold ccells
      rw [← List.flatMap_append, List.take_append_drop]
    rw [hs, List.getElem?_append_left (List.getElem?_eq_some_iff.1 hj).1]
    exact hj
set_option maxRecDepth 100000 in
set_option maxHeartbeats 4000000 in
theorem rcheck_any (p : PM) (w : World) (h : p.At w) (hs : p.pd.Sml) (hir : (Lit.int .i64 p.restart).wf = true) (hig : (Lit.int .i64 p.grace).wf = true) :
    Calls Tryz.prog 44 #[p.val] w fun e w' => e = .returned (.int .i64 (podE p.pd)) ∧ Fresh w w' := by
  obtain ⟨name, ns, rs, gr, ho, a, cap, cs⟩ := p
  have HROW := Lib.hid h.row
  have HINS := Lib.hid h.ins
  have hcap : cs.length ≤ cap := h.le
  have d1 : name.size ≤ 1048576 := hs.name
  have d2 : ns.size ≤ 1048576 := hs.ns
  have d3 : cs.length ≤ 1048576 := by have := hs.len; simpa [PM.pd] using this
  have HSM : Hid (∀ m ∈ cs, m.c.Sml) := fun m hm => hs.cs m.c (List.mem_map.2 ⟨m, hm, rfl⟩)
  have HNM : Hid (∀ W, Calls Tryz.prog 78 #[.string name] W fun e w' => e = .returned (.bool (nameB name.data.toList)) ∧ Fresh W w') := fun W => by
    have := rname_any name.data.toList W (by simp; omega)
    rwa [tx_of] at this
  have HLB := Lib.hid (fun W => rlabel_any ns W (by omega))
  have HP : Hid (podE (PM.mk name ns rs gr ho a cap cs).pd = if headE (PM.mk name ns rs gr ho a cap cs).pd = 0 then csE [] (cs.map (·.c)) else headE (PM.mk name ns rs gr ho a cap cs).pd) := rfl
  have HH : Hid (headE (PM.mk name ns rs gr ho a cap cs).pd = if nameB name.data.toList = true ∧ labB ns.data.toList = true then (if rs < 0 ∨ 2 < rs ∨ gr < 1 ∨ 3600 < gr then 7 else if cs.length = 0 then 16 else if 16 < cs.length then 18 else 0) else 13) := by
    rw [Hid, headE]
    simp only [PM.pd, List.length_map]
  have HA := Lib.hid (at_new w (.cells #[.string name, .string ns, .int .i64 rs, .int .i64 gr, .bool ho, .slice a cs.length cap] 46))
  have HF0 := Lib.hid ((Fresh.refl w).alloc (.cells #[.string name, .string ns, .int .i64 rs, .int .i64 gr, .bool ho, .slice a cs.length cap] 46))
  dsimp only [PM.val] at *
  clear h hs
  generalize podE (PM.mk name ns rs gr ho a cap cs).pd = R at *
  generalize headE (PM.mk name ns rs gr ho a cap cs).pd = H at *
  cases hn : nameB name.data.toList with
  | false =>
    rw [hn] at HNM
    have HR : Hid (R = 13) := by
      have : H = 13 := by rw [HH.out, if_neg (by rw [hn]; simp)]
      rw [Hid, HP.out, this, if_neg (by decide)]
    clear HH HP hn
    go_enter Tryz.func44, Tryz.ntmps44
    go_wp2_with (fail)
    refine (HNM.out _).mono ?_
    rintro e w1 ⟨rfl, hf⟩
    go_wp2
    go_ret
    exact ⟨ret_int HR.out.symm, HF0.out.trans hf⟩
  | true =>
    rw [hn] at HNM
    cases hl : labB ns.data.toList with
    | false =>
      rw [hl] at HLB
      have HR : Hid (R = 13) := by
        have : H = 13 := by rw [HH.out, if_neg (by rw [hl]; simp)]
        rw [Hid, HP.out, this, if_neg (by decide)]
      clear HH HP hn hl
      go_enter Tryz.func44, Tryz.ntmps44
      go_wp2_with (fail)
      refine (HNM.out _).mono ?_
      rintro e w1 ⟨rfl, hf⟩
      obtain ⟨⟨q0, q1, q2, q3, q4, q5⟩, _⟩ := box6p (hf.at HA.out)
      go_wp2_with (fail)
      refine (HLB.out _).mono ?_
      rintro e w2 ⟨rfl, rfl⟩
      go_wp2
      go_ret
      exact ⟨ret_int HR.out.symm, HF0.out.trans hf⟩
    | true =>
      rw [hl] at HLB
      have HH2 : Hid (H = if rs < 0 ∨ 2 < rs ∨ gr < 1 ∨ 3600 < gr then 7 else if cs.length = 0 then 16 else if 16 < cs.length then 18 else 0) := by rw [Hid, HH.out, if_pos ⟨hn, hl⟩]
      clear HH hn hl
      go_enter Tryz.func44, Tryz.ntmps44
      go_wp2_with (fail)
      refine (HNM.out _).mono ?_
      rintro e w1 ⟨rfl, hf⟩
      have hA1 := hf.at HA.out
      have HF1 := Lib.hid (HF0.out.trans hf)
      obtain ⟨⟨q0, q1, q2, q3, q4, q5⟩, _⟩ := box6p hA1
      have HA1 := Lib.hid hA1
      clear hA1 hf HA HF0
      obtain ⟨b, hb⟩ : ∃ b, b = w.heap.size := ⟨_, rfl⟩
      rw [← hb] at q0 q1 q2 q3 q4 q5 HA1 ⊢
      clear hb
      go_wp2_with (fail)
      refine (HLB.out _).mono ?_
      rintro e w2 ⟨rfl, rfl⟩
      by_cases hrg : rs < 0 ∨ 2 < rs ∨ gr < 1 ∨ 3600 < gr
      · have HR : Hid (R = 7) := by
          have : H = 7 := by rw [HH2.out, if_pos hrg]
          rw [Hid, HP.out, this, if_neg (by decide)]
        go_wp2
        all_goals try (exfalso; omega)
        all_goals go_ret
        all_goals exact ⟨ret_int HR.out.symm, HF1.out⟩
      · have hd : 0 ≤ rs ∧ rs ≤ 2 ∧ 1 ≤ gr ∧ gr ≤ 3600 := by omega
        obtain ⟨z1, z2, z3, z4⟩ := hd
        by_cases h0 : cs.length = 0
        · have HR : Hid (R = 16) := by
            have : H = 16 := by rw [HH2.out, if_neg hrg, if_pos h0]
            rw [Hid, HP.out, this, if_neg (by decide)]
          clear hrg
          go_wp2
          all_goals try (exfalso; omega)
          all_goals go_ret
          all_goals exact ⟨ret_int HR.out.symm, HF1.out⟩
        · by_cases h16 : 16 < cs.length
          · have HR : Hid (R = 18) := by
              have : H = 18 := by rw [HH2.out, if_neg hrg, if_neg h0, if_pos h16]
              rw [Hid, HP.out, this, if_neg (by decide)]
            clear hrg
            go_wp2
            all_goals try (exfalso; omega)
            all_goals go_ret
            all_goals exact ⟨ret_int HR.out.symm, HF1.out⟩
          · have HR0 : Hid (R = csE [] (cs.map (·.c))) := by
              have : H = 0 := by rw [HH2.out, if_neg hrg, if_neg h0, if_neg h16]
              rw [Hid, HP.out, if_pos this]
            clear hrg HP HH2
            have hpos : 0 < cs.length := by omega
            have e5 : ((cs.length : Int) == 0) = false := by rw [beq_eq_false_iff_ne]; omega
            clear h0
            go_wp2
            all_goals try (exfalso; omega)
            go_loopw [3] (fun a3 wr => ∃ (k : Nat), a3 = .int .i64 (k : Int) ∧ k ≤ cs.length ∧ Hid (csE [] (cs.map (·.c)) = csE (namesC (cs.take k)) ((cs.drop k).map (·.c))) ∧ Hid (Fresh w1 wr)) (fun a3 _ => cs.length - (intOf a3).toNat)
            case atStart => exact ⟨0, rfl, Nat.zero_le _, rfl, Fresh.refl _⟩
            case round =>
              obtain ⟨k, rfl, hk, HE, HF⟩ := hrel
              obtain ⟨⟨q0, q1, q2, q3, q4, q5⟩, _⟩ := box6p (HF.out.at HA1.out)
              clear q0 q1 q2 q3 q4
              by_cases hlt : k < cs.length
              · obtain ⟨g, o1, ea, hc⟩ := crow_form ((HROW.out.move HF1.out).move HF.out) hlt
                obtain ⟨c0, c1, c2, c3, c4, c5, c6⟩ := hc k hlt
                have HTK : Hid ((cs.take k).length = k) := by rw [Hid, List.length_take]; omega
                have HQ : Hid (∀ W, Fresh wr W → Calls Tryz.prog 88 #[cs[k].val, .slice (some ⟨g, o1, none⟩) k cap] W fun e w' => e = .returned (.int .i64 (ctE (namesC (cs.take k)) cs[k].c)) ∧ Fresh W w') := fun W f => by
                  have hm := (((HINS.out _ (List.getElem_mem hlt)).move HF1.out).move HF.out).move f
                  have hr := row_take ((((HROW.out).move HF1.out).move HF.out).move f) k
                  rw [ea] at hr
                  have := rcont_any cs[k] (cs.take k) (some ⟨g, o1, none⟩) cap W hm hr (HSM.out _ (List.getElem_mem hlt)) (by have := HTK.out; omega)
                  rw [HTK.out] at this
                  exact this
                have HST : Hid (csE [] (cs.map (·.c)) = if ctE (namesC (cs.take k)) cs[k].c = 0 then csE (namesC (cs.take (k + 1))) ((cs.drop (k + 1)).map (·.c)) else ctE (namesC (cs.take k)) cs[k].c) := by
                  rw [Hid, HE.out, List.drop_eq_getElem_cons hlt, List.map_cons, csE, List.take_succ_eq_append_getElem hlt, show namesC (cs.take k ++ [cs[k]]) = namesC (cs.take k) ++ [cs[k].c.name] by unfold namesC; rw [List.map_append]; rfl]
                rw [ea] at q5
                clear hc ea
                generalize ctE (namesC (cs.take k)) cs[k].c = E at *
                generalize cs[k] = m at *
                dsimp only [CM.val] at HQ
                generalize m.c.name = mn at *
                generalize m.c.image = mi at *
                generalize m.c.cmd.length = lc at *
                generalize m.c.ports.length = lp at *
                generalize m.c.env.length = le at *
                generalize m.c.cpu = cpu at *
                generalize m.c.mem = mem at *
                generalize m.ca = ca at *
                generalize m.cc = cc at *
                generalize m.pa = pa at *
                generalize m.pc = pc at *
                generalize m.ea = ea at *
                generalize m.ec = ec at *
                have i1 : (0 : Int) ≤ (k : Int) := by omega
                have i2 : (k : Int) < (cs.length : Int) := by omega
                have i3 : (k : Int) ≤ (cap : Int) := by omega
                have i4 : (0 : Int) ≤ (cap : Int) := by omega
                have HQ2 := Lib.hid (HQ.out wr.drew (Fresh.refl wr).drew)
                have HKP : Hid (∀ w', Fresh wr.drew w' → (w'.cell? ⟨b, 5, none⟩ = some (.slice (some ⟨g, o1, none⟩) cs.length cap) ∧ w'.cell? ⟨g, o1 + k * 7, none⟩ = some (.string mn) ∧ w'.cell? ⟨g, o1 + k * 7 + 1, none⟩ = some (.string mi) ∧ w'.cell? ⟨g, o1 + k * 7 + 2, none⟩ = some (.slice ca lc cc) ∧ w'.cell? ⟨g, o1 + k * 7 + 3, none⟩ = some (.slice pa lp pc) ∧ w'.cell? ⟨g, o1 + k * 7 + 4, none⟩ = some (.int .i64 cpu) ∧ w'.cell? ⟨g, o1 + k * 7 + 5, none⟩ = some (.int .i64 mem) ∧ w'.cell? ⟨g, o1 + k * 7 + 6, none⟩ = some (.slice ea le ec))) := fun w' hf => ⟨hf.cell (a := wr.drew) q5, hf.cell (a := wr.drew) c0, hf.cell (a := wr.drew) c1, hf.cell (a := wr.drew) c2, hf.cell (a := wr.drew) c3, hf.cell (a := wr.drew) c4, hf.cell (a := wr.drew) c5, hf.cell (a := wr.drew) c6⟩
                by_cases hE : E = 0
                · have HN : Hid (csE [] (cs.map (·.c)) = csE (namesC (cs.take (k + 1))) ((cs.drop (k + 1)).map (·.c))) := by rw [Hid, HST.out, if_pos hE]
                  subst hE
                  clear HST
                  go_wp2_with (fail)
                  go_region_held3 (fun w' => (w'.cell? ⟨b, 5, none⟩ = some (.slice (some ⟨g, o1, none⟩) cs.length cap) ∧ w'.cell? ⟨g, o1 + k * 7, none⟩ = some (.string mn) ∧ w'.cell? ⟨g, o1 + k * 7 + 1, none⟩ = some (.string mi) ∧ w'.cell? ⟨g, o1 + k * 7 + 2, none⟩ = some (.slice ca lc cc) ∧ w'.cell? ⟨g, o1 + k * 7 + 3, none⟩ = some (.slice pa lp pc) ∧ w'.cell? ⟨g, o1 + k * 7 + 4, none⟩ = some (.int .i64 cpu) ∧ w'.cell? ⟨g, o1 + k * 7 + 5, none⟩ = some (.int .i64 mem) ∧ w'.cell? ⟨g, o1 + k * 7 + 6, none⟩ = some (.slice ea le ec))) (go_keep)
                    (first | (go_at_call 88; (with_reducible refine HQ2.out.mono ?_); rintro e W1 ⟨rfl, hf⟩; obtain ⟨k0, k1, k2, k3, k4, k5, k6, k7⟩ := HKP.out _ hf; have HF3 := Lib.hid (HF.out.drew.trans hf); clear hf))
                  clear k0 k1 k2 k3 k4 k5 k6 k7 q5 c0 c1 c2 c3 c4 c5 c6
                  go_wp2
                  all_goals try (exfalso; omega)
                  go_roundw
                  case rel => exact ⟨k + 1, by simp, by omega, HN.out, HF3.out⟩
                  case measure => simp [intOf]; omega
                  
                · have HR : Hid (R = E) := by rw [Hid, HR0.out, HST.out, if_neg hE]
                  clear HST
                  go_wp2_with (fail)
                  go_region_held3 (fun w' => (w'.cell? ⟨b, 5, none⟩ = some (.slice (some ⟨g, o1, none⟩) cs.length cap) ∧ w'.cell? ⟨g, o1 + k * 7, none⟩ = some (.string mn) ∧ w'.cell? ⟨g, o1 + k * 7 + 1, none⟩ = some (.string mi) ∧ w'.cell? ⟨g, o1 + k * 7 + 2, none⟩ = some (.slice ca lc cc) ∧ w'.cell? ⟨g, o1 + k * 7 + 3, none⟩ = some (.slice pa lp pc) ∧ w'.cell? ⟨g, o1 + k * 7 + 4, none⟩ = some (.int .i64 cpu) ∧ w'.cell? ⟨g, o1 + k * 7 + 5, none⟩ = some (.int .i64 mem) ∧ w'.cell? ⟨g, o1 + k * 7 + 6, none⟩ = some (.slice ea le ec))) (go_keep)
                    (first | (go_at_call 88; (with_reducible refine HQ2.out.mono ?_); rintro e W1 ⟨rfl, hf⟩; obtain ⟨k0, k1, k2, k3, k4, k5, k6, k7⟩ := HKP.out _ hf; have HF3 := Lib.hid (HF.out.drew.trans hf); clear hf))
                  clear k0 k1 k2 k3 k4 k5 k6 k7 q5 c0 c1 c2 c3 c4 c5 c6
                  go_wp2
                  all_goals try (exfalso; omega)
                  go_ret
                  exact ⟨ret_int HR.out.symm, HF1.out.trans HF3.out⟩
                  
              · obtain rfl : k = cs.length := by omega
                have HR : Hid (R = 0) := by rw [Hid, HR0.out, HE.out, List.drop_length]; rfl
                go_wp2
                all_goals try (exfalso; omega)
                go_ret
                exact ⟨ret_int HR.out.symm, HF1.out.trans HF.out⟩
end Go.Proofs.YtldncgelghcjeaaGreatDoor
namespace Go.Proofs.YtldncgelghcjeaaGreatDoor.K
open Go.ChangeShapes Go.WideShapes Go.ChangeAt Go.RowKit
set_option maxRecDepth 100000

theorem wrap_pred3 {k : Nat} (h : 0 < k) (hk : k ≤ 4000000) : IntKind.i64.wrap ((k : Int) - 1) = ((k - 1 : Nat) : Int) := by
  rw [IntKind.wrap_i64]
  omega
/-- Small enough for the document's Check. -/
structure M3.Sml (x : M3) : Prop where
  file : x.file.size ≤ maxLen
  pd : x.m.pd.Sml
  ir : (Lit.int .i64 x.m.restart).wf = true
  ig : (Lit.int .i64 x.m.grace).wf = true
set_option maxHeartbeats 4000000 in
theorem rcheck3_any (seq : Int) (a : Option Addr) (l : List M3) (c : Nat) (w : World) (h : Row3 w a l) (hf : ∀ x ∈ l, x.Sml) (hl : l.length ≤ 4000000) :
    Calls Tryz.prog 12 #[st3 seq a l.length c] w fun e w' => e = .returned (.int .i64 (chk3 (pods3 l))) ∧ Fresh w w' := by
  have HROW := Lib.hid h
  have HFT := Lib.hid hf
  have hpl : (pods3 l).length = l.length := by simp [pods3]
  have HC : Hid (chk3 (pods3 l) = if 1024 < l.length then 18 else chk3F (ahead3 (pods3 l) 0) ((pods3 l).drop 0)) := by rw [Hid, chk3, hpl]; rfl
  have HA := Lib.hid (at_new w (.cells #[.int .u64 seq, .slice a l.length c] 30))
  have HF0 := Lib.hid ((Fresh.refl w).alloc (.cells #[.int .u64 seq, .slice a l.length c] 30))
  dsimp only [st3]
  clear h hf
  generalize chk3 (pods3 l) = E at *
  by_cases hm : 1024 < l.length
  case pos =>
    have HR : Hid (E = 18) := by rw [Hid, HC.out, if_pos hm]
    clear HC
    go_enter Tryz.func12, Tryz.ntmps12
    go_wp2
    all_goals try (exfalso; omega)
    go_ret
    exact ⟨ret_int HR.out.symm, HF0.out⟩
  have HC2 : Hid (E = chk3F (ahead3 (pods3 l) 0) ((pods3 l).drop 0)) := by rw [Hid, HC.out, if_neg hm]
  clear HC
  go_enter Tryz.func12, Tryz.ntmps12
  go_wp2
  all_goals try (exfalso; omega)
  generalize w.alloc (.cells #[.int .u64 seq, .slice a l.length c] 30) = W0 at *
  obtain ⟨b, hb⟩ : ∃ b, b = w.heap.size := ⟨_, rfl⟩
  rw [← hb] at HA ⊢
  clear hb
  go_loopw [3] (fun a3 wr => ∃ (k : Nat), a3 = .int .i64 (k : Int) ∧ k ≤ l.length ∧ Hid (E = chk3F (ahead3 (pods3 l) k) ((pods3 l).drop k)) ∧ Hid (Fresh W0 wr)) (fun a3 _ => l.length - (intOf a3).toNat)
  case atStart => exact ⟨0, rfl, Nat.zero_le _, HC2.out, Fresh.refl _⟩
  case round =>
  obtain ⟨k, rfl, hk, HE, HF⟩ := hrel
  obtain ⟨b0, b1, _⟩ := st3_box (HF.out.at HA.out)
  by_cases hlt : k < l.length
  case pos =>
    have hR := (HROW.out.move HF0.out).move HF.out
    obtain ⟨g, o1, rfl, hc⟩ := m3_form hR.row hlt
    obtain ⟨c0, c1, c2, c3, c4, c5, c6⟩ := hc k hlt
    have hkp : k < (pods3 l).length := by omega
    have hpk := pods3_get hlt hkp
    have HPV : Hid (∀ (hk0 : 0 < k), wr.cell? ⟨g, o1 + (k - 1) * 7, none⟩ = some (.string (ahead3 (pods3 l) k))) := fun hk0 => by
      have h1 := (hc (k - 1) (by omega)).1
      have h2 := ahead3_succ (pods3 l) (k - 1) (by omega)
      rw [Nat.sub_add_cancel hk0, pods3_get (show k - 1 < l.length by omega)] at h2
      rw [h2]; exact h1
    have HFI := Lib.hid (HFT.out _ (List.getElem_mem hlt))
    have hin := hR.ins _ (List.getElem_mem hlt)
    have HCK := Lib.hid (fun W (f : Fresh wr W) => Go.Proofs.YtldncgelghcjeaaGreatDoor.rcheck_any l[k].m W (hin.move f) HFI.out.pd HFI.out.ir HFI.out.ig)
    have HSTEP : Hid (E = if f3E l[k].p (ahead3 (pods3 l) k) = 0 then chk3F l[k].p.file ((pods3 l).drop (k + 1)) else f3E l[k].p (ahead3 (pods3 l) k)) := by
      have := HE.out.trans (chk3F_drop hkp _)
      rw [hpk] at this; exact this
    have HAH : Hid (ahead3 (pods3 l) (k + 1) = l[k].p.file) := by have := ahead3_succ (pods3 l) k hkp; rw [hpk] at this; exact this
    have HA0 : Hid (k = 0 → ahead3 (pods3 l) k = ⟨#[]⟩) := fun h => by rw [h]; rfl
    clear hc hR hkp hpk hin HE
    generalize ahead3 (pods3 l) k = ah at *
    generalize l[k] = p at *
    obtain ⟨file, name, ns, rs, gr, ho, ca, cap, cs⟩ := p
    have HRF := Lib.hid (fun W => rfile_any file W HFI.out.file)
    have HAH : Hid (ahead3 (pods3 l) (k + 1) = file) := HAH.out
    have HSTEP : Hid (E = if f3E ⟨file, PM.pd ⟨name, ns, rs, gr, ho, ca, cap, cs⟩⟩ ah = 0 then chk3F file ((pods3 l).drop (k + 1)) else f3E ⟨file, PM.pd ⟨name, ns, rs, gr, ho, ca, cap, cs⟩⟩ ah) := HSTEP.out
    have HX : Hid (f3E ⟨file, PM.pd ⟨name, ns, rs, gr, ho, ca, cap, cs⟩⟩ ah = if fileB file = true then (if leS file ah = true then 6 else podE (PM.pd ⟨name, ns, rs, gr, ho, ca, cap, cs⟩)) else 13) := rfl
    have HLE : Hid (leS file ah = (Op.bytesLess file.toList ah.toList || file.toList == ah.toList)) := rfl
    have HL0 : Hid (fileB file = true → k = 0 → leS file ah = false) := fun h1 h2 => by
      rw [HA0.out h2]; exact leS_empty (file_one h1).1
    dsimp only [PM.val] at *
    generalize podE (PM.pd ⟨name, ns, rs, gr, ho, ca, cap, cs⟩) = PE at *
    generalize f3E ⟨file, PM.pd ⟨name, ns, rs, gr, ho, ca, cap, cs⟩⟩ ah = F at *
    generalize cs.length = n at *
    have i3 : (0 : Int) ≤ (k : Int) := by omega
    have i4 : (k : Int) < (l.length : Int) := by omega
    clear HFI HA0
    cases hf : fileB file with
    | false =>
      rw [hf] at HRF
      have HR : Hid (E = 13) := by
        have : F = 13 := by rw [HX.out, if_neg (by rw [hf]; simp)]
        rw [Hid, HSTEP.out, this, if_neg (by decide)]
      clear HSTEP HX HL0 HLE HAH HPV hf HCK
      go_wp2_with (fail)
      all_goals try (exfalso; omega)
      refine (HRF.out _).mono ?_
      rintro e w1 ⟨rfl, rfl⟩
      go_wp2
      go_ret
      exact ⟨ret_int HR.out.symm, HF0.out.trans HF.out⟩
    | true =>
      rw [hf] at HRF
      have HX2 : Hid (F = if leS file ah = true then 6 else PE) := by rw [Hid, HX.out, if_pos hf]
      have HL1 := Lib.hid (HL0.out hf)
      clear HX HL0 hf
      have hxx := HLE.out
      generalize hx1 : Op.bytesLess file.toList ah.toList = x1 at *
      generalize hx2 : (file.toList == ah.toList) = x2 at *
      generalize leS file ah = L at *
      have HGO : Hid (L = false → F = PE) := fun h => by rw [HX2.out, h]; rfl
      have HNO : Hid (L = true → E = 6) := fun h => by
        have : F = 6 := by rw [HX2.out, h]; rfl
        rw [HSTEP.out, this, if_neg (by decide)]
      clear HX2
      by_cases hk0 : k = 0
      case pos =>
        subst hk0
        rw [show o1 + 0 * 7 = o1 from by omega] at c0 c1 c2 c3 c4 c5 c6
        obtain rfl := HL1.out rfl
        have HFP := HGO.out rfl
        clear HL1 HLE HPV hxx hx1 hx2 HGO HNO
        subst HFP
        by_cases hF : F = 0
        case pos =>
          have HN : Hid (E = chk3F file ((pods3 l).drop (0 + 1))) := by rw [Hid, HSTEP.out, if_pos hF]
          subst hF
          clear HSTEP
          go_wp2_with (fail)
          all_goals try (exfalso; omega)
          refine (HRF.out _).mono ?_
          rintro e w1 ⟨rfl, rfl⟩
          go_wp2_with (fail)
          go_quiet (fail)
          go_wp2_with (fail)
          all_goals try (exfalso; omega)
          refine (HCK.out _ (fresh_drewN _ _)).mono ?_
          rintro e w1 ⟨rfl, hf⟩
          have HF2 := Lib.hid ((HF.out.trans (fresh_drewN _ _)).trans hf)
          clear hf
          go_wp2
          all_goals try (exfalso; omega)
          go_roundw
          case rel => exact ⟨0 + 1, by simp, by omega, by rw [HAH.out]; exact HN.out, HF2.out⟩
          case measure => simp [intOf]; omega
        case neg =>
          have HR : Hid (E = F) := by rw [Hid, HSTEP.out, if_neg hF]
          have e0 : (F == 0) = false := by rw [beq_eq_false_iff_ne]; exact hF
          clear HSTEP
          go_wp2_with (fail)
          all_goals try (exfalso; omega)
          refine (HRF.out _).mono ?_
          rintro e w1 ⟨rfl, rfl⟩
          go_wp2_with (fail)
          go_quiet (fail)
          go_wp2_with (fail)
          all_goals try (exfalso; omega)
          refine (HCK.out _ (fresh_drewN _ _)).mono ?_
          rintro e w1 ⟨rfl, hf⟩
          have HF2 := Lib.hid (((HF0.out.trans HF.out).trans (fresh_drewN _ _)).trans hf)
          clear hf
          go_wp2
          all_goals try (exfalso; omega)
          go_ret
          exact ⟨ret_int HR.out.symm, HF2.out⟩
      case neg =>
        have hk1 : 0 < k := by omega
        have hpv := HPV.out hk1
        have hw := wrap_pred3 hk1 (by omega)
        have i1 : (0 : Int) ≤ ((k - 1 : Nat) : Int) := by omega
        have i2 : ((k - 1 : Nat) : Int) < (l.length : Int) := by omega
        clear HPV HL1 hk0
        cases hl : (x1 || x2) with
        | true =>
          have HR := Lib.hid (HNO.out (HLE.out.trans hl))
          clear HSTEP HGO HNO HLE hxx HCK
          cases x1 <;> cases x2 <;> simp at hl <;> (go_wp2_with (fail); (all_goals try (exfalso; omega)); refine (HRF.out _).mono ?_; rintro e w1 ⟨rfl, rfl⟩; go_wp2_with (fail); go_quiet (fail); go_wp2; (all_goals try (exfalso; omega)); go_ret; exact ⟨ret_int HR.out.symm, (HF0.out.trans HF.out).trans (fresh_drewN _ _)⟩)
        | false =>
          have HFP := HGO.out (HLE.out.trans hl)
          clear HGO HNO HLE hxx
          simp only [Bool.or_eq_false_iff] at hl
          obtain ⟨rfl, rfl⟩ := hl
          subst HFP
          by_cases hF : F = 0
          case pos =>
            have HN : Hid (E = chk3F file ((pods3 l).drop (k + 1))) := by rw [Hid, HSTEP.out, if_pos hF]
            subst hF
            clear HSTEP
            go_wp2_with (fail)
            all_goals try (exfalso; omega)
            refine (HRF.out _).mono ?_
            rintro e w1 ⟨rfl, rfl⟩
            go_wp2_with (fail)
            go_quiet (fail)
            go_wp2_with (fail)
            all_goals try (exfalso; omega)
            refine (HCK.out _ (fresh_drewN _ _)).mono ?_
            rintro e w1 ⟨rfl, hf⟩
            have HF2 := Lib.hid ((HF.out.trans (fresh_drewN _ _)).trans hf)
            clear hf
            go_wp2
            all_goals try (exfalso; omega)
            go_roundw
            case rel => exact ⟨k + 1, by simp, by omega, by rw [HAH.out]; exact HN.out, HF2.out⟩
            case measure => simp [intOf]; omega
          case neg =>
            have HR : Hid (E = F) := by rw [Hid, HSTEP.out, if_neg hF]
            have e0 : (F == 0) = false := by rw [beq_eq_false_iff_ne]; exact hF
            clear HSTEP
            go_wp2_with (fail)
            all_goals try (exfalso; omega)
            refine (HRF.out _).mono ?_
            rintro e w1 ⟨rfl, rfl⟩
            go_wp2_with (fail)
            go_quiet (fail)
            go_wp2_with (fail)
            all_goals try (exfalso; omega)
            refine (HCK.out _ (fresh_drewN _ _)).mono ?_
            rintro e w1 ⟨rfl, hf⟩
            have HF2 := Lib.hid (((HF0.out.trans HF.out).trans (fresh_drewN _ _)).trans hf)
            clear hf
            go_wp2
            all_goals try (exfalso; omega)
            go_ret
            exact ⟨ret_int HR.out.symm, HF2.out⟩
  case neg =>
    obtain rfl : k = l.length := by omega
    have HR : Hid (E = 0) := by rw [Hid, HE.out, List.drop_of_length_le (by omega)]; rfl
    go_wp2
    all_goals try (exfalso; omega)
    go_ret
    exact ⟨ret_int HR.out.symm, HF0.out.trans HF.out⟩
end Go.Proofs.YtldncgelghcjeaaGreatDoor.K
namespace Go.Proofs.YtldncgelghcjeaaGreatDoor.K
open Go.ChangeShapes Go.WideShapes Go.ChangeAt Go.RowKit
set_option maxRecDepth 100000

def DecIs3 (b : ByteArray) (w : World) (r : Ending) (w' : World) : Prop :=
  ∃ a c, ∃ D : List M3, r = .returned (.tuple #[st3 (dec3 b).2.1 a D.length c, .int .i64 (dec3 b).1]) ∧ pods3 D = (dec3 b).2.2 ∧ Row3 w' a D ∧ Fresh w w'
abbrev zeroP7 : Array Value := #[.string ⟨#[]⟩, .string ⟨#[]⟩, .string ⟨#[]⟩, .int .i64 0, .int .i64 0, .bool false, .slice none 0 0]
theorem infoRP3 : (Tryz.prog.info? 48).map (fun i => (i.zero, i.size, i.bytes)) = some (some (.agg #[.string ⟨#[]⟩, .string ⟨#[]⟩, .string ⟨#[]⟩, .int .i64 0, .int .i64 0, .bool false, .slice none 0 0]), 7, 96) := by kernel_rfl
theorem infoRC3 : (Tryz.prog.info? 115).map (fun i => (i.zero, i.size, i.bytes)) = some (some (.agg #[.string ⟨#[]⟩, .string ⟨#[]⟩, .slice none 0 0, .slice none 0 0, .int .i64 0, .int .i64 0, .slice none 0 0]), 7, 120) := by kernel_rfl
/-! ### rows of one type, boxes of another -/
theorem box_kept {W W' : World} {B e k n : Nat} {v : Value} {xs : List Value} (h : W.ownsRow B e k v n xs) {z t : Nat} {cs : Array Value} {fz : Nat × Nat} (hz : W.heap[z]? = some (.cells cs t fz)) (hne : e ≠ t) (hg : W.grownBy W' v.ownBlock) : W'.heap[z]? = some (.cells cs t fz) := by
  rw [hg.block z (lt_of_at hz) ?_]
  · exact hz
  · intro e2
    rcases h.2 with ⟨rfl, _⟩ | ⟨g, cap, cur, rfl, _, hg2, _⟩
    · simp [Value.ownBlock] at e2
    · have : z = g := by simpa [Value.ownBlock] using e2
      subst this
      rw [hg2] at hz
      cases hz
      exact hne rfl
section
variable {N B' e' k' n' z t : Nat} {W W' : World} {m : CM} {x : PM} {v' : Value} {xs' : List Value} {zs : Array Value} {fz : Nat × Nat}
theorem CmOwn.base (h : CmOwn N W m) (hB : B' ≤ N) : CmOwn B' W m := ⟨own_base h.lr hB, own_base h.pr hB, own_base h.er hB⟩
theorem CmOwn.kept (h : CmOwn N W m) (h' : W.ownsRow B' e' k' v' n' xs') (n1 : 9 ≠ e') (n2 : 117 ≠ e') (n3 : 119 ≠ e') (hg : W.grownBy W' v'.ownBlock) : CmOwn N W' m :=
  ⟨own_kept_ne h.lr h' n1 hg, own_kept_ne h.pr h' n2 hg, own_kept_ne h.er h' n3 hg⟩
theorem CmOwn.type (h : CmOwn N W m) (hz : W.heap[z]? = some (.cells zs t fz)) (n1 : 9 ≠ t) (n2 : 117 ≠ t) (n3 : 119 ≠ t) (i : Nat) (u : Value) : CmOwn N (W.setCell ⟨z, i, none⟩ u) m :=
  ⟨own_type h.lr hz n1 i u, own_type h.pr hz n2 i u, own_type h.er hz n3 i u⟩
/-- A pod of the document's, its rows owned. -/
structure PmOwn (N : Nat) (W : World) (x : PM) : Prop where
  row : W.ownsRow N 115 7 (.slice x.a x.cs.length x.cap) x.cs.length (ccells x.cs)
  ins : ∀ m ∈ x.cs, CmOwn N W m
theorem PmOwn.at (h : PmOwn N W x) : x.At W := ⟨RowAt.owns h.row, fun m hm => (h.ins m hm).in, own_le h.row⟩
theorem PmOwn.fresh (h : PmOwn N W x) (f : Fresh W W') : PmOwn N W' x := ⟨own_fresh h.row f, fun m hm => (h.ins m hm).fresh f⟩
theorem PmOwn.base (h : PmOwn N W x) (hB : B' ≤ N) : PmOwn B' W x := ⟨own_base h.row hB, fun m hm => (h.ins m hm).base hB⟩
theorem PmOwn.kept (h : PmOwn N W x) (h' : W.ownsRow B' e' k' v' n' xs') (n0 : 115 ≠ e') (n1 : 9 ≠ e') (n2 : 117 ≠ e') (n3 : 119 ≠ e') (hg : W.grownBy W' v'.ownBlock) : PmOwn N W' x :=
  ⟨own_kept_ne h.row h' n0 hg, fun m hm => (h.ins m hm).kept h' n1 n2 n3 hg⟩
theorem PmOwn.type (h : PmOwn N W x) (hz : W.heap[z]? = some (.cells zs t fz)) (n0 : 115 ≠ t) (n1 : 9 ≠ t) (n2 : 117 ≠ t) (n3 : 119 ≠ t) (i : Nat) (u : Value) : PmOwn N (W.setCell ⟨z, i, none⟩ u) x :=
  ⟨own_type h.row hz n0 i u, fun m hm => (h.ins m hm).type hz n1 n2 n3 i u⟩
end
/-- The boxes of the document's Decode, and what it has come to. -/
structure DS3 (w W : World) (z y : Nat) (s : ByteArray) (e q : Int) (o : Option Addr) (k c : Nat) (D : List M3) : Prop where
  hz : z = w.heap.size
  h1 : z + 1 < y
  r : W.heap[z]? = some (.cells #[.int .u64 0, .slice none 0 0] 30)
  t : W.heap[z + 1]? = some (.cells #[.string s, .int .i64 e] 143)
  st : W.heap[y]? = some (.cells #[.int .u64 q, .slice o k c] 30)
  row : W.ownsRow z 48 7 (.slice o k c) k (m3s D)
  far : ∀ x ∈ D, PmOwn z W x.m
  fr : Fresh w W
/-- .. and the pod that it takes. -/
structure DP3 (w W : World) (z y pb : Nat) (s : ByteArray) (e q : Int) (o : Option Addr) (k c : Nat) (D : List M3) (pc : Array Value) (a : Option Addr) (n cc : Nat) (cs : List CM) : Prop extends DS3 w W z y s e q o k c D where
  h2 : y < pb
  p : W.heap[pb]? = some (.cells pc 48)
  lowR : ∀ g, (Value.slice o k c).ownBlock = some g → g < pb
  lowD : ∀ x ∈ D, ∀ g, (Value.slice x.m.a x.m.cs.length x.m.cap).ownBlock = some g → g < pb
  crow : W.ownsRow (pb + 1) 115 7 (.slice a n cc) n (ccells cs)
  cins : ∀ m ∈ cs, CmOwn z W m
section
variable {w W W' : World} {z y pb : Nat} {s : ByteArray} {e q : Int} {o : Option Addr} {k c : Nat} {D : List M3} {pc : Array Value} {a : Option Addr} {n cc : Nat} {cs : List CM}
theorem DS3.fresh (h : DS3 w W z y s e q o k c D) (f : Fresh W W') : DS3 w W' z y s e q o k c D :=
  ⟨h.hz, h.h1, f.at h.r, f.at h.t, f.at h.st, own_fresh h.row f, fun x hx => (h.far x hx).fresh f, h.fr.trans f⟩
theorem DP3.fresh (h : DP3 w W z y pb s e q o k c D pc a n cc cs) (f : Fresh W W') : DP3 w W' z y pb s e q o k c D pc a n cc cs :=
  ⟨h.toDS3.fresh f, h.h2, f.at h.p, h.lowR, h.lowD, own_fresh h.crow f, fun m hm => (h.cins m hm).fresh f⟩
theorem DS3.setT1 (h : DS3 w W z y s e q o k c D) {s' : ByteArray} {e' : Int} (i : Nat) (u : Value) (hc : (#[.string s, .int .i64 e] : Array Value).setIfInBounds i u = #[.string s', .int .i64 e']) : DS3 w (W.setCell ⟨z + 1, i, none⟩ u) z y s' e' q o k c D := by
  have hh := h.h1
  refine ⟨h.hz, h.h1, off_set h.r (by omega), ?_, off_set h.st (by omega), own_type h.row h.t (by decide) _ _, fun x hx => (h.far x hx).type h.t (by decide) (by decide) (by decide) (by decide) _ _, fresh_low h.fr (by rw [h.hz]; omega)⟩
  have := at_set h.t i u
  rw [hc] at this
  exact this
theorem DP3.setT1 (h : DP3 w W z y pb s e q o k c D pc a n cc cs) {s' : ByteArray} {e' : Int} (i : Nat) (u : Value) (hc : (#[.string s, .int .i64 e] : Array Value).setIfInBounds i u = #[.string s', .int .i64 e']) : DP3 w (W.setCell ⟨z + 1, i, none⟩ u) z y pb s' e' q o k c D pc a n cc cs := by
  have h1 := h.h1
  have h2 := h.h2
  exact ⟨h.toDS3.setT1 i u hc, h.h2, off_set h.p (by omega), h.lowR, h.lowD, own_type h.crow h.t (by decide) _ _, fun m hm => (h.cins m hm).type h.t (by decide) (by decide) (by decide) _ _⟩
theorem DS3.setT (h : DS3 w W z y s e q o k c D) (s' : ByteArray) (e' : Int) : DS3 w ((W.setCell ⟨z + 1, 0, none⟩ (.string s')).setCell ⟨z + 1, 1, none⟩ (.int .i64 e')) z y s' e' q o k c D :=
  (h.setT1 (s' := s') (e' := e) 0 _ rfl).setT1 1 _ rfl
theorem DP3.setT (h : DP3 w W z y pb s e q o k c D pc a n cc cs) (s' : ByteArray) (e' : Int) : DP3 w ((W.setCell ⟨z + 1, 0, none⟩ (.string s')).setCell ⟨z + 1, 1, none⟩ (.int .i64 e')) z y pb s' e' q o k c D pc a n cc cs :=
  (h.setT1 (s' := s') (e' := e) 0 _ rfl).setT1 1 _ rfl
theorem DP3.setP (h : DP3 w W z y pb s e q o k c D pc a n cc cs) (i : Nat) (u : Value) : DP3 w (W.setCell ⟨pb, i, none⟩ u) z y pb s e q o k c D (pc.setIfInBounds i u) a n cc cs := by
  have h1 := h.h1
  have h2 := h.h2
  exact ⟨⟨h.hz, h.h1, off_set h.r (by omega), off_set h.t (by omega), off_set h.st (by omega), own_past h.row h.lowR, fun x hx => (h.far x hx).type h.p (by decide) (by decide) (by decide) (by decide) _ _, fresh_low h.fr (by rw [← h.hz]; omega)⟩, h.h2, at_set h.p i u, h.lowR, h.lowD,
    own_type h.crow h.p (by decide) _ _, fun m hm => (h.cins m hm).type h.p (by decide) (by decide) (by decide) _ _⟩
/-- A pod's box. -/
theorem DS3.pod (h : DS3 w W z y s e q o k c D) : DP3 w (W.alloc (.cells zeroP7 48)) z y W.heap.size s e q o k c D zeroP7 none 0 0 [] :=
  ⟨h.fresh ((Fresh.refl W).alloc _), lt_of_at h.st, at_new _ _, fun g e => (World.ownsRow.lt h.row g e).2, fun x hx g e => (World.ownsRow.lt (h.far x hx).row g e).2, World.ownsRow_nil _ _ _ _, by simp⟩
/-- Behind an append to the containers. -/
theorem DP3.grownC (h : DP3 w W z y pb s e q o k c D pc a n cc cs) (hg : W.grownBy W' (Value.slice a n cc).ownBlock) {a' : Option Addr} {n' cc' : Nat} {m : CM} (hm : CmOwn z W m) (hr : W'.ownsRow (pb + 1) 115 7 (.slice a' n' cc') n' (ccells (cs ++ [m]))) : DP3 w W' z y pb s e q o k c D pc a' n' cc' (cs ++ [m]) := by
  have h1 := h.h1
  have h2 := h.h2
  have hlt : ∀ g, (Value.slice a n cc).ownBlock = some g → pb + 1 ≤ g := fun g e => (World.ownsRow.lt h.crow g e).1
  have keep : ∀ x, CmOwn z W x → CmOwn z W' x := fun x hx => hx.kept h.crow (by decide) (by decide) (by decide) hg
  refine ⟨⟨h.hz, h.h1, box_kept h.crow h.r (by decide) hg, box_kept h.crow h.t (by decide) hg, box_kept h.crow h.st (by decide) hg, own_kept_ne h.row h.crow (by decide) hg, fun x hx => ⟨?_, fun m' hm' => keep _ ((h.far x hx).ins m' hm')⟩, h.fr.grown hg (fun g e => by have := hlt g e; have := h.hz; omega)⟩, h.h2, box_kept h.crow h.p (by decide) hg, h.lowR, h.lowD, hr, fun x hx => ?_⟩
  · refine World.ownsRow.kept (h.far x hx).row hg ?_
    rcases h' : (Value.slice x.m.a x.m.cs.length x.m.cap).ownBlock with _ | g
    · exact .inl rfl
    · exact .inr (fun e2 => by have := hlt g e2.symm; have := h.lowD x hx g h'; omega)
  · rcases List.mem_append.1 hx with hx | hx
    · exact keep _ (h.cins x hx)
    · rw [List.mem_singleton.1 hx]; exact keep _ hm
/-- Behind an append to the pods, and its store. -/
theorem DP3.grownP (h : DP3 w W z y pb s e q o k c D pc a n cc cs) {m : M3} (hma : m.m.a = a) (hmc : m.m.cs = cs) (hml : n = cs.length) (hmk : m.m.cap = cc) (hg : W.grownBy W' (Value.slice o k c).ownBlock) {g' c' : Nat}
    (hr : W'.ownsRow z 48 7 (.slice (some ⟨g', 0, none⟩) (k + 1) c') (k + 1) (m3s (D ++ [m]))) : DS3 w (W'.setCell ⟨y, 1, none⟩ (.slice (some ⟨g', 0, none⟩) (k + 1) c')) z y s e q (some ⟨g', 0, none⟩) (k + 1) c' (D ++ [m]) := by
  have h1 := h.h1
  have h2 := h.h2
  subst hml
  have hst := box_kept h.row h.st (by decide) hg
  have hm : PmOwn z W m.m := by
    refine ⟨?_, ?_⟩
    · rw [hma, hmc, hmk]; exact own_base h.crow (by omega)
    · rw [hmc]; exact h.cins
  have hz := h.hz
  refine ⟨h.hz, h.h1, off_set (box_kept h.row h.r (by decide) hg) (by omega), off_set (box_kept h.row h.t (by decide) hg) (by omega), set2_1 hst, own_type hr hst (by decide) _ _, fun x hx => ?_, fresh_low (h.fr.grown hg (fun g e => by have := (World.ownsRow.lt h.row g e).1; omega)) (by omega)⟩
  have hf : PmOwn z W x.m := by
    rcases List.mem_append.1 hx with hx | hx
    · exact h.far x hx
    · rw [List.mem_singleton.1 hx]; exact hm
  exact (hf.kept h.row (by decide) (by decide) (by decide) (by decide) hg).type hst (by decide) (by decide) (by decide) (by decide) _ _
/-- The taker's two cells. -/
theorem DS3.tc (h : DS3 w W z y s e q o k c D) : W.cell? ⟨z + 1, 0, none⟩ = some (.string s) ∧ W.cell? ⟨z + 1, 1, none⟩ = some (.int .i64 e) ∧ W.frozen? ⟨z + 1, 0, none⟩ = false ∧ W.frozen? ⟨z + 1, 1, none⟩ = false :=
  ⟨cell_of_at h.t rfl, cell_of_at h.t rfl, frozen_of_at h.t 0, frozen_of_at h.t 1⟩
theorem DP3.pc7 {v0 v1 v2 v3 v4 v5 v6 : Value} (h : DP3 w W z y pb s e q o k c D #[v0, v1, v2, v3, v4, v5, v6] a n cc cs) :
    (W.cell? ⟨pb, 0, none⟩ = some v0 ∧ W.cell? ⟨pb, 1, none⟩ = some v1 ∧ W.cell? ⟨pb, 2, none⟩ = some v2 ∧ W.cell? ⟨pb, 3, none⟩ = some v3 ∧ W.cell? ⟨pb, 4, none⟩ = some v4 ∧ W.cell? ⟨pb, 5, none⟩ = some v5 ∧ W.cell? ⟨pb, 6, none⟩ = some v6) ∧ ∀ i, W.frozen? ⟨pb, i, none⟩ = false :=
  ⟨⟨cell_of_at h.p rfl, cell_of_at h.p rfl, cell_of_at h.p rfl, cell_of_at h.p rfl, cell_of_at h.p rfl, cell_of_at h.p rfl, cell_of_at h.p rfl⟩, frozen_of_at h.p⟩
theorem DS3.row3 (h : DS3 w W z y s e q o k c D) : Row3 W o D := ⟨RowAt.owns h.row, fun m hm => (h.far m hm).at⟩
end
theorem DS3.doneR {w W : World} {z y : Nat} {s : ByteArray} {e q : Int} {o : Option Addr} {k c : Nat} {D : List M3} (h : DS3 w W z y s e q o k c D) (u0 u1 : Value) : Row3 ((W.setCell ⟨z, 0, none⟩ u0).setCell ⟨z, 1, none⟩ u1) o D := by
  have h2 := at_set h.r 0 u0
  exact ⟨RowAt.owns (own_type (own_type h.row h.r (by decide) _ _) h2 (by decide) _ _), fun x hx => (((h.far x hx).type h.r (by decide) (by decide) (by decide) (by decide) _ _).type h2 (by decide) (by decide) (by decide) (by decide) _ _).at⟩
theorem CtFit.sml {c : Ct} (h : CtFit c) : c.Sml := by
  have h1 := h.name; have h2 := h.image; have h3 := h.lc; have h4 := h.lp; have h5 := h.le
  exact ⟨by omega, by omega, by omega, by omega, by omega, fun s hs => by have := h.cmd s hs; omega, fun v hv => by have := h.env v hv; omega⟩
theorem P3Fit.sml {x : M3} (h : P3Fit x.p) : x.Sml := by
  have h1 := h.file; have h2 := h.name; have h3 := h.ns; have h4 := h.r0; have h5 := h.r1; have h6 := h.g0; have h7 := h.g1; have h8 := h.len
  simp only [M3.p, PM.pd] at h1 h2 h3 h4 h5 h6 h7 h8
  refine ⟨by unfold maxLen; omega, ⟨by show x.m.name.size ≤ _; omega, by show x.m.ns.size ≤ _; omega, by show (x.m.cs.map (·.c)).length ≤ _; omega, fun c hc => (h.cs c hc).sml⟩, ?_, ?_⟩
  all_goals
    simp [Lit.wf]
    have e1 : IntKind.i64.min = -9223372036854775808 := by decide
    omega
/-- What a container's take leaves. -/
theorem DP3.taken {w V : World} {z y pb : Nat} {s s' : ByteArray} {e e' q : Int} {o : Option Addr} {k c : Nat} {D : List M3} {pc : Array Value} {a : Option Addr} {n cc : Nat} {cs : List CM} {m : CM} (h : DP3 w V z y pb s e q o k c D pc a n cc cs) (hm : CmOwn z V m) (p1 p2 : Obj) :
    DP3 w ((((V.alloc p1).alloc p2).setCell ⟨z + 1, 0, none⟩ (.string s')).setCell ⟨z + 1, 1, none⟩ (.int .i64 e')) z y pb s' e' q o k c D pc a n cc cs ∧ CmOwn z ((((V.alloc p1).alloc p2).setCell ⟨z + 1, 0, none⟩ (.string s')).setCell ⟨z + 1, 1, none⟩ (.int .i64 e')) m ∧ ((((V.alloc p1).alloc p2).setCell ⟨z + 1, 0, none⟩ (.string s')).setCell ⟨z + 1, 1, none⟩ (.int .i64 e')).heap.size = V.heap.size + 2 := by
  obtain ⟨_, _, h1, h4⟩ := two_boxes V p1 p2
  have hd := h.fresh h1
  have hd1 := hd.setT1 (s' := s') (e' := e) 0 _ rfl
  refine ⟨hd.setT s' e', ?_, by simp only [World.size_setCell]; exact h4⟩
  exact (((hm.fresh h1).type hd.t (by decide) (by decide) (by decide) _ _).type hd1.t (by decide) (by decide) (by decide) _ _)
theorem ccells_snoc (l : List CM) (m : CM) : ccells (l ++ [m]) = ccells l ++ [.string m.c.name, .string m.c.image, .slice m.ca m.c.cmd.length m.cc, .slice m.pa m.c.ports.length m.pc, .int .i64 m.c.cpu, .int .i64 m.c.mem, .slice m.ea m.c.env.length m.ec] := by simp [ccells, CM.cells]
end Go.Proofs.YtldncgelghcjeaaGreatDoor.K
