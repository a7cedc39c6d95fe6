/-
  What is wrong with a pod, by the document.
  The document's Default, walked: one of four cases (printed by a script).
  The document's Default, walked: one of four cases (printed by a script).
  The document's Default, walked: one of four cases (printed by a script).
-/
import Derived.Test.YtfhhmajkacjbgaaDoorDck10
import Derived.RegionTactic
import Derived.Deep.RegionHeld3
import Derived.Test.YtfhhmajkacjbgaaDoorDck01
namespace Go.Proofs.YtfhhmajkacjbgaaDoor
open Go.ChangeShapes Go.WideShapes Go.ChangeAt Go.RowKit
attribute [local go_sem ↓] Go.wp_at_zero Go.wp_at_succ

theorem row_take {w : World} {a : Option Addr} {l : List CM} (h : RowAt w a (ccells l)) (k : Nat) : RowAt w a (ccells (l.take k)) := by
  by_cases h0 : l = []
  · subst h0; simpa using h
  · have hne : ccells l ≠ [] := ccells_ne (i := 0) (List.length_pos_iff.2 h0)
    obtain ⟨g, o, e, hc⟩ := h.form hne
    refine .inr ⟨g, o, e, fun j x hj => hc j x ?_⟩
    have hs : ccells l = ccells (l.take k) ++ ccells (l.drop k) := by
      unfold ccells
      rw [← List.flatMap_append, List.take_append_drop]
    rw [hs, List.getElem?_append_left (List.getElem?_eq_some_iff.1 hj).1]
    exact hj
set_option maxRecDepth 100000 in
set_option maxHeartbeats 4000000 in
theorem rcheck_any (p : PM) (w : World) (h : p.At w) (hs : p.pd.Sml) (hir : (Lit.int .i64 p.restart).wf = true) (hig : (Lit.int .i64 p.grace).wf = true) :
    Calls Tryd.prog 10 #[p.val] w fun e w' => e = .returned (.int .i64 (podE p.pd)) ∧ Fresh w w' := by
  obtain ⟨name, ns, rs, gr, ho, a, cap, cs⟩ := p
  have HROW := Lib.hid h.row
  have HINS := Lib.hid h.ins
  have hcap : cs.length ≤ cap := h.le
  have d1 : name.size ≤ 20000 := hs.name
  have d2 : ns.size ≤ 20000 := hs.ns
  have d3 : cs.length ≤ 1000 := by have := hs.len; simpa [PM.pd] using this
  have HSM : Hid (∀ m ∈ cs, m.c.Sml) := fun m hm => hs.cs m.c (List.mem_map.2 ⟨m, hm, rfl⟩)
  have HNM : Hid (∀ W, Calls Tryd.prog 32 #[.string name] W fun e w' => e = .returned (.bool (nameB name.data.toList)) ∧ Fresh W w') := fun W => by
    have := rname_any name.data.toList W (by simp; omega)
    rwa [tx_of] at this
  have HLB := Lib.hid (fun W => rlabel_any ns W (by omega))
  have HP : Hid (podE (PM.mk name ns rs gr ho a cap cs).pd = if headE (PM.mk name ns rs gr ho a cap cs).pd = 0 then csE [] (cs.map (·.c)) else headE (PM.mk name ns rs gr ho a cap cs).pd) := rfl
  have HH : Hid (headE (PM.mk name ns rs gr ho a cap cs).pd = if nameB name.data.toList = true ∧ labB ns.data.toList = true then (if rs < 0 ∨ 2 < rs ∨ gr < 1 ∨ 3600 < gr then 7 else if cs.length = 0 then 16 else if 16 < cs.length then 18 else 0) else 13) := by
    rw [Hid, headE]
    simp only [PM.pd, List.length_map]
  have HA := Lib.hid (at_new w (.cells #[.string name, .string ns, .int .i64 rs, .int .i64 gr, .bool ho, .slice a cs.length cap] 30))
  have HF0 := Lib.hid ((Fresh.refl w).alloc (.cells #[.string name, .string ns, .int .i64 rs, .int .i64 gr, .bool ho, .slice a cs.length cap] 30))
  dsimp only [PM.val] at *
  clear h hs
  generalize podE (PM.mk name ns rs gr ho a cap cs).pd = R at *
  generalize headE (PM.mk name ns rs gr ho a cap cs).pd = H at *
  cases hn : nameB name.data.toList with
  | false =>
    rw [hn] at HNM
    have HR : Hid (R = 13) := by
      have : H = 13 := by rw [HH.out, if_neg (by rw [hn]; simp)]
      rw [Hid, HP.out, this, if_neg (by decide)]
    clear HH HP hn
    go_enter Tryd.func10, Tryd.ntmps10
    go_wp2_with (fail)
    refine (HNM.out _).mono ?_
    rintro e w1 ⟨rfl, hf⟩
    go_wp2
    go_ret
    exact ⟨ret_int HR.out.symm, HF0.out.trans hf⟩
  | true =>
    rw [hn] at HNM
    cases hl : labB ns.data.toList with
    | false =>
      rw [hl] at HLB
      have HR : Hid (R = 13) := by
        have : H = 13 := by rw [HH.out, if_neg (by rw [hl]; simp)]
        rw [Hid, HP.out, this, if_neg (by decide)]
      clear HH HP hn hl
      go_enter Tryd.func10, Tryd.ntmps10
      go_wp2_with (fail)
      refine (HNM.out _).mono ?_
      rintro e w1 ⟨rfl, hf⟩
      obtain ⟨⟨q0, q1, q2, q3, q4, q5⟩, _⟩ := box6p (hf.at HA.out)
      go_wp2_with (fail)
      refine (HLB.out _).mono ?_
      rintro e w2 ⟨rfl, rfl⟩
      go_wp2
      go_ret
      exact ⟨ret_int HR.out.symm, HF0.out.trans hf⟩
    | true =>
      rw [hl] at HLB
      have HH2 : Hid (H = if rs < 0 ∨ 2 < rs ∨ gr < 1 ∨ 3600 < gr then 7 else if cs.length = 0 then 16 else if 16 < cs.length then 18 else 0) := by rw [Hid, HH.out, if_pos ⟨hn, hl⟩]
      clear HH hn hl
      go_enter Tryd.func10, Tryd.ntmps10
      go_wp2_with (fail)
      refine (HNM.out _).mono ?_
      rintro e w1 ⟨rfl, hf⟩
      have hA1 := hf.at HA.out
      have HF1 := Lib.hid (HF0.out.trans hf)
      obtain ⟨⟨q0, q1, q2, q3, q4, q5⟩, _⟩ := box6p hA1
      have HA1 := Lib.hid hA1
      clear hA1 hf HA HF0
      obtain ⟨b, hb⟩ : ∃ b, b = w.heap.size := ⟨_, rfl⟩
      rw [← hb] at q0 q1 q2 q3 q4 q5 HA1 ⊢
      clear hb
      go_wp2_with (fail)
      refine (HLB.out _).mono ?_
      rintro e w2 ⟨rfl, rfl⟩
      by_cases hrg : rs < 0 ∨ 2 < rs ∨ gr < 1 ∨ 3600 < gr
      · have HR : Hid (R = 7) := by
          have : H = 7 := by rw [HH2.out, if_pos hrg]
          rw [Hid, HP.out, this, if_neg (by decide)]
        go_wp2
        all_goals try (exfalso; omega)
        all_goals go_ret
        all_goals exact ⟨ret_int HR.out.symm, HF1.out⟩
      · have hd : 0 ≤ rs ∧ rs ≤ 2 ∧ 1 ≤ gr ∧ gr ≤ 3600 := by omega
        obtain ⟨z1, z2, z3, z4⟩ := hd
        by_cases h0 : cs.length = 0
        · have HR : Hid (R = 16) := by
            have : H = 16 := by rw [HH2.out, if_neg hrg, if_pos h0]
            rw [Hid, HP.out, this, if_neg (by decide)]
          clear hrg
          go_wp2
          all_goals try (exfalso; omega)
          all_goals go_ret
          all_goals exact ⟨ret_int HR.out.symm, HF1.out⟩
        · by_cases h16 : 16 < cs.length
          · have HR : Hid (R = 18) := by
              have : H = 18 := by rw [HH2.out, if_neg hrg, if_neg h0, if_pos h16]
              rw [Hid, HP.out, this, if_neg (by decide)]
            clear hrg
            go_wp2
            all_goals try (exfalso; omega)
            all_goals go_ret
            all_goals exact ⟨ret_int HR.out.symm, HF1.out⟩
          · have HR0 : Hid (R = csE [] (cs.map (·.c))) := by
              have : H = 0 := by rw [HH2.out, if_neg hrg, if_neg h0, if_neg h16]
              rw [Hid, HP.out, if_pos this]
            clear hrg HP HH2
            have hpos : 0 < cs.length := by omega
            have e5 : ((cs.length : Int) == 0) = false := by rw [beq_eq_false_iff_ne]; omega
            clear h0
            go_wp2
            all_goals try (exfalso; omega)
            go_loopw [3] (fun a3 wr => ∃ (k : Nat), a3 = .int .i64 (k : Int) ∧ k ≤ cs.length ∧ Hid (csE [] (cs.map (·.c)) = csE (namesC (cs.take k)) ((cs.drop k).map (·.c))) ∧ Hid (Fresh w1 wr)) (fun a3 _ => cs.length - (intOf a3).toNat)
            case atStart => exact ⟨0, rfl, Nat.zero_le _, rfl, Fresh.refl _⟩
            case round =>
              obtain ⟨k, rfl, hk, HE, HF⟩ := hrel
              obtain ⟨⟨q0, q1, q2, q3, q4, q5⟩, _⟩ := box6p (HF.out.at HA1.out)
              clear q0 q1 q2 q3 q4
              by_cases hlt : k < cs.length
              · obtain ⟨g, o1, ea, hc⟩ := crow_form ((HROW.out.move HF1.out).move HF.out) hlt
                obtain ⟨c0, c1, c2, c3, c4, c5, c6⟩ := hc k hlt
                have HTK : Hid ((cs.take k).length = k) := by rw [Hid, List.length_take]; omega
                have HQ : Hid (∀ W, Fresh wr W → Calls Tryd.prog 34 #[cs[k].val, .slice (some ⟨g, o1, none⟩) k cap] W fun e w' => e = .returned (.int .i64 (ctE (namesC (cs.take k)) cs[k].c)) ∧ Fresh W w') := fun W f => by
                  have hm := (((HINS.out _ (List.getElem_mem hlt)).move HF1.out).move HF.out).move f
                  have hr := row_take ((((HROW.out).move HF1.out).move HF.out).move f) k
                  rw [ea] at hr
                  have := rcont_any cs[k] (cs.take k) (some ⟨g, o1, none⟩) cap W hm hr (HSM.out _ (List.getElem_mem hlt)) (by have := HTK.out; omega)
                  rw [HTK.out] at this
                  exact this
                have HST : Hid (csE [] (cs.map (·.c)) = if ctE (namesC (cs.take k)) cs[k].c = 0 then csE (namesC (cs.take (k + 1))) ((cs.drop (k + 1)).map (·.c)) else ctE (namesC (cs.take k)) cs[k].c) := by
                  rw [Hid, HE.out, List.drop_eq_getElem_cons hlt, List.map_cons, csE, List.take_succ_eq_append_getElem hlt, show namesC (cs.take k ++ [cs[k]]) = namesC (cs.take k) ++ [cs[k].c.name] by unfold namesC; rw [List.map_append]; rfl]
                rw [ea] at q5
                clear hc ea
                generalize ctE (namesC (cs.take k)) cs[k].c = E at *
                generalize cs[k] = m at *
                dsimp only [CM.val] at HQ
                generalize m.c.name = mn at *
                generalize m.c.image = mi at *
                generalize m.c.cmd.length = lc at *
                generalize m.c.ports.length = lp at *
                generalize m.c.env.length = le at *
                generalize m.c.cpu = cpu at *
                generalize m.c.mem = mem at *
                generalize m.ca = ca at *
                generalize m.cc = cc at *
                generalize m.pa = pa at *
                generalize m.pc = pc at *
                generalize m.ea = ea at *
                generalize m.ec = ec at *
                have i1 : (0 : Int) ≤ (k : Int) := by omega
                have i2 : (k : Int) < (cs.length : Int) := by omega
                have i3 : (k : Int) ≤ (cap : Int) := by omega
                have i4 : (0 : Int) ≤ (cap : Int) := by omega
                have HQ2 := Lib.hid (HQ.out wr.drew (Fresh.refl wr).drew)
                have HKP : Hid (∀ w', Fresh wr.drew w' → (w'.cell? ⟨b, 5, none⟩ = some (.slice (some ⟨g, o1, none⟩) cs.length cap) ∧ w'.cell? ⟨g, o1 + k * 7, none⟩ = some (.string mn) ∧ w'.cell? ⟨g, o1 + k * 7 + 1, none⟩ = some (.string mi) ∧ w'.cell? ⟨g, o1 + k * 7 + 2, none⟩ = some (.slice ca lc cc) ∧ w'.cell? ⟨g, o1 + k * 7 + 3, none⟩ = some (.slice pa lp pc) ∧ w'.cell? ⟨g, o1 + k * 7 + 4, none⟩ = some (.int .i64 cpu) ∧ w'.cell? ⟨g, o1 + k * 7 + 5, none⟩ = some (.int .i64 mem) ∧ w'.cell? ⟨g, o1 + k * 7 + 6, none⟩ = some (.slice ea le ec))) := fun w' hf => ⟨hf.cell (a := wr.drew) q5, hf.cell (a := wr.drew) c0, hf.cell (a := wr.drew) c1, hf.cell (a := wr.drew) c2, hf.cell (a := wr.drew) c3, hf.cell (a := wr.drew) c4, hf.cell (a := wr.drew) c5, hf.cell (a := wr.drew) c6⟩
                by_cases hE : E = 0
                · have HN : Hid (csE [] (cs.map (·.c)) = csE (namesC (cs.take (k + 1))) ((cs.drop (k + 1)).map (·.c))) := by rw [Hid, HST.out, if_pos hE]
                  subst hE
                  clear HST
                  go_wp2_with (fail)
                  go_region_held3 (fun w' => (w'.cell? ⟨b, 5, none⟩ = some (.slice (some ⟨g, o1, none⟩) cs.length cap) ∧ w'.cell? ⟨g, o1 + k * 7, none⟩ = some (.string mn) ∧ w'.cell? ⟨g, o1 + k * 7 + 1, none⟩ = some (.string mi) ∧ w'.cell? ⟨g, o1 + k * 7 + 2, none⟩ = some (.slice ca lc cc) ∧ w'.cell? ⟨g, o1 + k * 7 + 3, none⟩ = some (.slice pa lp pc) ∧ w'.cell? ⟨g, o1 + k * 7 + 4, none⟩ = some (.int .i64 cpu) ∧ w'.cell? ⟨g, o1 + k * 7 + 5, none⟩ = some (.int .i64 mem) ∧ w'.cell? ⟨g, o1 + k * 7 + 6, none⟩ = some (.slice ea le ec))) (go_keep)
                    (first | (go_at_call 34; (with_reducible refine HQ2.out.mono ?_); rintro e W1 ⟨rfl, hf⟩; obtain ⟨k0, k1, k2, k3, k4, k5, k6, k7⟩ := HKP.out _ hf; have HF3 := Lib.hid (HF.out.drew.trans hf); clear hf))
                  clear k0 k1 k2 k3 k4 k5 k6 k7 q5 c0 c1 c2 c3 c4 c5 c6
                  go_wp2
                  all_goals try (exfalso; omega)
                  go_roundw
                  case rel => exact ⟨k + 1, by simp, by omega, HN.out, HF3.out⟩
                  case measure => simp [intOf]; omega
                  
                · have HR : Hid (R = E) := by rw [Hid, HR0.out, HST.out, if_neg hE]
                  clear HST
                  go_wp2_with (fail)
                  go_region_held3 (fun w' => (w'.cell? ⟨b, 5, none⟩ = some (.slice (some ⟨g, o1, none⟩) cs.length cap) ∧ w'.cell? ⟨g, o1 + k * 7, none⟩ = some (.string mn) ∧ w'.cell? ⟨g, o1 + k * 7 + 1, none⟩ = some (.string mi) ∧ w'.cell? ⟨g, o1 + k * 7 + 2, none⟩ = some (.slice ca lc cc) ∧ w'.cell? ⟨g, o1 + k * 7 + 3, none⟩ = some (.slice pa lp pc) ∧ w'.cell? ⟨g, o1 + k * 7 + 4, none⟩ = some (.int .i64 cpu) ∧ w'.cell? ⟨g, o1 + k * 7 + 5, none⟩ = some (.int .i64 mem) ∧ w'.cell? ⟨g, o1 + k * 7 + 6, none⟩ = some (.slice ea le ec))) (go_keep)
                    (first | (go_at_call 34; (with_reducible refine HQ2.out.mono ?_); rintro e W1 ⟨rfl, hf⟩; obtain ⟨k0, k1, k2, k3, k4, k5, k6, k7⟩ := HKP.out _ hf; have HF3 := Lib.hid (HF.out.drew.trans hf); clear hf))
                  clear k0 k1 k2 k3 k4 k5 k6 k7 q5 c0 c1 c2 c3 c4 c5 c6
                  go_wp2
                  all_goals try (exfalso; omega)
                  go_ret
                  exact ⟨ret_int HR.out.symm, HF1.out.trans HF3.out⟩
                  
              · obtain rfl : k = cs.length := by omega
                have HR : Hid (R = 0) := by rw [Hid, HR0.out, HE.out, List.drop_length]; rfl
                go_wp2
                all_goals try (exfalso; omega)
                go_ret
                exact ⟨ret_int HR.out.symm, HF1.out.trans HF.out⟩
end Go.Proofs.YtfhhmajkacjbgaaDoor
namespace Go.Proofs.YtfhhmajkacjbgaaDoor
open Go.ChangeShapes Go.WideShapes Go.ChangeAt Go.RowKit

set_option maxRecDepth 100000 in
set_option maxHeartbeats 4000000 in
theorem rdef_A (name ns : ByteArray) (rs gr : Int) (ho : Bool) (a : Option Addr) (cap : Nat) (cs : List CM) (w : World) (hr : RowAt w a (ccells cs)) (hin : ∀ m ∈ cs, m.In w) (hl : cs.length ≤ 1048576) (hns : ns = ⟨#[]⟩) (hg : gr = 0) :
    Calls Tryd.prog 13 #[.agg #[.string name, .string ns, .int .i64 rs, .int .i64 gr, .bool ho, .slice a cs.length cap]] w fun e w' => ∃ a' cap', e = .returned ((PM.mk name ns rs gr ho a cap cs).dft a' cap').val ∧ ((PM.mk name ns rs gr ho a cap cs).dft a' cap').At w' ∧ Fresh w w' := by
  have HROW := Lib.hid hr
  have HINS := Lib.hid hin
  obtain ⟨i0, hi, hz0, hz1, hz2⟩ := info_parts infoC
  dsimp only [PM.val] at *
  clear hr hin
  obtain ⟨ns2, hns2⟩ : ∃ s, s = if ns.size = 0 then nsDef else ns := ⟨_, rfl⟩
  obtain ⟨gr2, hgr2⟩ : ∃ s, s = if gr = 0 then (30 : Int) else gr := ⟨_, rfl⟩
  have HD : Hid (∀ a' cap', (PM.mk name ns rs gr ho a cap cs).dft a' cap' = ⟨name, ns2, rs, gr2, ho, a', cap', cs.map CM.dft⟩) := fun a' cap' => by
    rw [hns2, hgr2]; rfl
  subst hns
  subst hg
  have HN : Hid (ns2 = nsDef) := hns2
  have HG : Hid (gr2 = 30) := hgr2
  clear hns2 hgr2
  go_enter Tryd.func13, Tryd.ntmps13
  go_wp2
  refine (fun W0 hpre => ?_ : ∀ W0, DPre 30 w W0 name ns2 rs gr2 ho a cs.length cap → Code.wp _ _ _ _ W0) _ (by
      rw [HN.out, HG.out]
      first
        | exact dpre0 _ _ _ _ _ _ _ _ _ _
        | exact (dpre0 _ _ _ _ _ _ _ _ _ _).setNs _
        | exact (dpre0 _ _ _ _ _ _ _ _ _ _).setGr _
        | exact ((dpre0 _ _ _ _ _ _ _ _ _ _).setNs _).setGr _)
  clear HN HG
  have HA1 := Lib.hid hpre.at1
  have HA2 := Lib.hid hpre.at2
  have HF0 := Lib.hid hpre.fr
  have HS0 := Lib.hid hpre.sz
  have HROW0 := Lib.hid (HROW.out.move hpre.fr)
  clear hpre HROW
  try clear e0
  have hcs : ((cs.take cs.length).map CM.dft) = cs.map CM.dft := by rw [List.take_length]
  have HCS := Lib.hid hcs
  clear hcs
  obtain ⟨b, hb⟩ : ∃ b, b = w.heap.size := ⟨_, rfl⟩
  rw [← hb] at HA1 HA2 HS0 ⊢
  have HBW := Lib.hid hb
  clear hb
  go_loopw [3, 4] (fun a3 a4 wr => ∃ (k : Nat) (v : Value), a3 = v ∧ a4 = .int .i64 (k : Int) ∧ k ≤ cs.length ∧ Hid (CBuf 60 wr (b + 2) v ((cs.take k).map CM.dft)) ∧ Hid (Fresh W0 wr)) (fun _ a4 _ => cs.length - (intOf a4).toNat)
  case atStart => exact ⟨0, _, rfl, rfl, Nat.zero_le _, World.ownsRow_nil _ _ _ _, Fresh.refl _⟩
  case round =>
    obtain ⟨k, v, rfl, rfl, hk, HB, HF⟩ := hrel
    obtain ⟨o, c, hv⟩ := cbuf_shape HB.out
    have hml : ((cs.take k).map CM.dft).length = k := by rw [List.length_map, List.length_take]; omega
    rw [hml] at hv
    subst hv
    obtain ⟨⟨p0, p1, p2, p3, p4, p5⟩, hfz⟩ := box6p (HF.out.at HA1.out)
    have HFZ := Lib.hid hfz
    by_cases hlt : k < cs.length
    · obtain ⟨g, o1, rfl, hc⟩ := crow_form (HROW0.out.move HF.out) hlt
      obtain ⟨c0, c1, c2, c3, c4, c5, c6⟩ := hc k hlt
      have HN : Hid ((cs.take (k + 1)).map CM.dft = (cs.take k).map CM.dft ++ [cs[k].dft]) := by
        rw [Hid, List.take_succ_eq_append_getElem hlt, List.map_append]; rfl
      obtain ⟨m, hm⟩ : ∃ m, m = cs[k] := ⟨_, rfl⟩
      rw [← hm] at c0 c1 c2 c3 c4 c5 c6 HN
      have HM := Lib.hid hm
      clear hc hm hml hfz
      have HSET := Lib.hid (box7_set 60 wr m.c.name m.c.image (.slice m.ca m.c.cmd.length m.cc) (.slice m.pa m.c.ports.length m.pc) m.c.cpu m.c.mem (.slice m.ea m.c.env.length m.ec))
      have HDFT : Hid (m.dft.cells = [.string m.c.name, .string m.c.image, .slice m.ca m.c.cmd.length m.cc, .slice m.pa m.c.ports.length m.pc, .int .i64 (if m.c.cpu = 0 then 100 else m.c.cpu), .int .i64 (if m.c.mem = 0 then 64 else m.c.mem), .slice m.ea m.c.env.length m.ec]) := rfl
      generalize m.c.name = mn at *
      generalize m.c.image = mi at *
      generalize m.c.cmd.length = lc at *
      generalize m.c.ports.length = lp at *
      generalize m.c.env.length = le at *
      generalize m.c.cpu = cpu at *
      generalize m.c.mem = mem at *
      generalize m.ca = ca at *
      generalize m.cc = cc at *
      generalize m.pa = pa at *
      generalize m.pc = pc at *
      generalize m.ea = ea at *
      generalize m.ec = ec at *
      have hbs : b + 2 ≤ wr.heap.size := by have := HF.out.size; have := HS0.out; omega
      have HB2 : Hid (wr.ownsRow (b + 2) 60 7 (.slice o k c) k (ccells ((cs.take k).map CM.dft))) := by
        have := HB.out
        unfold CBuf at this
        rw [List.length_map, List.length_take, Nat.min_eq_left (by omega)] at this
        exact this
      have HLT : Hid (∀ g, (Value.slice o k c).ownBlock = some g → W0.heap.size ≤ g) := fun g e => by have := (World.ownsRow.lt HB2.out g e).1; have := HS0.out; omega
      have HLK : Hid (((cs.take k).map CM.dft).length = k) := by rw [Hid, List.length_map, List.length_take]; omega
      have HNEWS : Hid (∀ x y : Int, ∀ j u, [Value.string mn, .string mi, .slice ca lc cc, .slice pa lp pc, .int .i64 x, .int .i64 y, .slice ea le ec][j]? = some u → ((wr.alloc (.cells #[.string mn, .string mi, .slice ca lc cc, .slice pa lp pc, .int .i64 x, .int .i64 y, .slice ea le ec] 60)).alloc (.cells #[.string mn, .string mi, .slice ca lc cc, .slice pa lp pc, .int .i64 x, .int .i64 y, .slice ea le ec] 60)).cell? ((⟨wr.heap.size + 1, 0, none⟩ : Addr).add j) = some u) := fun x y => by
        have := news7 (wr.alloc (.cells #[.string mn, .string mi, .slice ca lc cc, .slice pa lp pc, .int .i64 x, .int .i64 y, .slice ea le ec] 60)) 60 [.string mn, .string mi, .slice ca lc cc, .slice pa lp pc, .int .i64 x, .int .i64 y, .slice ea le ec]
        rw [World.size_alloc] at this
        exact this
      have HMORE : Hid (∀ (A : World) (u : Value), A.ownsRow (b + 2) 60 7 u (k + 1) (ccells ((cs.take k).map CM.dft) ++ m.dft.cells) → CBuf 60 A (b + 2) u ((cs.take (k + 1)).map CM.dft)) := fun A u h => by
        rw [HN.out]
        exact CBuf.more (by rw [HLK.out]; exact h)
      clear HSET HLK
      by_cases h1 : cpu = 0 <;> by_cases h2 : mem = 0
      · subst h1 h2
        have HD2 : Hid (m.dft.cells = _) := HDFT.out
        rw [if_pos rfl, if_pos rfl] at HD2
        clear HDFT
        go_wp2_with (at_builtin; refine wpList_append_own _ rfl _ _ 28 rfl (b + 2) 60 i0 (.agg #[.string ⟨#[]⟩, .string ⟨#[]⟩, .slice none 0 0, .slice none 0 0, .int .i64 0, .int .i64 0, .slice none 0 0]) 7 120 Tryd.underlying28 hi hz0 hz1 hz2 rfl (by decide) _ k _ rfl (World.ownsRow.alloc (World.ownsRow.alloc HB2.out _) _) ⟨wr.heap.size + 1, 0, none⟩ 1 1 [.string mn, .string mi, .slice ca lc cc, .slice pa lp pc, .int .i64 100, .int .i64 64, .slice ea le ec] rfl rfl (HNEWS.out 100 64) (by simp [Value.oneCell']) (by unfold maxLen; omega) (by omega) (by rw [World.size_alloc, World.size_alloc]; omega) ?_; intro v' w3 hown' hgrow _; obtain ⟨g', cap', rfl⟩ := ownsRow_succ hown'; have HOWN := Lib.hid hown'; have HGROW := Lib.hid hgrow; clear hown' hgrow)
        go_roundw
        case rel => exact ⟨k + 1, _, rfl, by simp, by omega, HMORE.out _ _ (by rw [HD2.out]; exact HOWN.out), ((HF.out.alloc _).alloc _).grown HGROW.out HLT.out⟩
        case measure => simp [intOf]; omega
      · subst h1
        have HD2 : Hid (m.dft.cells = _) := HDFT.out
        rw [if_pos rfl, if_neg h2] at HD2
        clear HDFT
        go_wp2_with (at_builtin; refine wpList_append_own _ rfl _ _ 28 rfl (b + 2) 60 i0 (.agg #[.string ⟨#[]⟩, .string ⟨#[]⟩, .slice none 0 0, .slice none 0 0, .int .i64 0, .int .i64 0, .slice none 0 0]) 7 120 Tryd.underlying28 hi hz0 hz1 hz2 rfl (by decide) _ k _ rfl (World.ownsRow.alloc (World.ownsRow.alloc HB2.out _) _) ⟨wr.heap.size + 1, 0, none⟩ 1 1 [.string mn, .string mi, .slice ca lc cc, .slice pa lp pc, .int .i64 100, .int .i64 mem, .slice ea le ec] rfl rfl (HNEWS.out 100 mem) (by simp [Value.oneCell']) (by unfold maxLen; omega) (by omega) (by rw [World.size_alloc, World.size_alloc]; omega) ?_; intro v' w3 hown' hgrow _; obtain ⟨g', cap', rfl⟩ := ownsRow_succ hown'; have HOWN := Lib.hid hown'; have HGROW := Lib.hid hgrow; clear hown' hgrow)
        go_roundw
        case rel => exact ⟨k + 1, _, rfl, by simp, by omega, HMORE.out _ _ (by rw [HD2.out]; exact HOWN.out), ((HF.out.alloc _).alloc _).grown HGROW.out HLT.out⟩
        case measure => simp [intOf]; omega
      · subst h2
        have HD2 : Hid (m.dft.cells = _) := HDFT.out
        rw [if_neg h1, if_pos rfl] at HD2
        clear HDFT
        go_wp2_with (at_builtin; refine wpList_append_own _ rfl _ _ 28 rfl (b + 2) 60 i0 (.agg #[.string ⟨#[]⟩, .string ⟨#[]⟩, .slice none 0 0, .slice none 0 0, .int .i64 0, .int .i64 0, .slice none 0 0]) 7 120 Tryd.underlying28 hi hz0 hz1 hz2 rfl (by decide) _ k _ rfl (World.ownsRow.alloc (World.ownsRow.alloc HB2.out _) _) ⟨wr.heap.size + 1, 0, none⟩ 1 1 [.string mn, .string mi, .slice ca lc cc, .slice pa lp pc, .int .i64 cpu, .int .i64 64, .slice ea le ec] rfl rfl (HNEWS.out cpu 64) (by simp [Value.oneCell']) (by unfold maxLen; omega) (by omega) (by rw [World.size_alloc, World.size_alloc]; omega) ?_; intro v' w3 hown' hgrow _; obtain ⟨g', cap', rfl⟩ := ownsRow_succ hown'; have HOWN := Lib.hid hown'; have HGROW := Lib.hid hgrow; clear hown' hgrow)
        go_roundw
        case rel => exact ⟨k + 1, _, rfl, by simp, by omega, HMORE.out _ _ (by rw [HD2.out]; exact HOWN.out), ((HF.out.alloc _).alloc _).grown HGROW.out HLT.out⟩
        case measure => simp [intOf]; omega
      · have HD2 : Hid (m.dft.cells = _) := HDFT.out
        rw [if_neg h1, if_neg h2] at HD2
        clear HDFT
        go_wp2_with (at_builtin; refine wpList_append_own _ rfl _ _ 28 rfl (b + 2) 60 i0 (.agg #[.string ⟨#[]⟩, .string ⟨#[]⟩, .slice none 0 0, .slice none 0 0, .int .i64 0, .int .i64 0, .slice none 0 0]) 7 120 Tryd.underlying28 hi hz0 hz1 hz2 rfl (by decide) _ k _ rfl (World.ownsRow.alloc (World.ownsRow.alloc HB2.out _) _) ⟨wr.heap.size + 1, 0, none⟩ 1 1 [.string mn, .string mi, .slice ca lc cc, .slice pa lp pc, .int .i64 cpu, .int .i64 mem, .slice ea le ec] rfl rfl (HNEWS.out cpu mem) (by simp [Value.oneCell']) (by unfold maxLen; omega) (by omega) (by rw [World.size_alloc, World.size_alloc]; omega) ?_; intro v' w3 hown' hgrow _; obtain ⟨g', cap', rfl⟩ := ownsRow_succ hown'; have HOWN := Lib.hid hown'; have HGROW := Lib.hid hgrow; clear hown' hgrow)
        go_roundw
        case rel => exact ⟨k + 1, _, rfl, by simp, by omega, HMORE.out _ _ (by rw [HD2.out]; exact HOWN.out), ((HF.out.alloc _).alloc _).grown HGROW.out HLT.out⟩
        case measure => simp [intOf]; omega
    · obtain rfl : k = cs.length := by omega
      obtain ⟨⟨q0, q1, q2, q3, q4, q5⟩, hfz2⟩ := box6p (HF.out.at HA2.out)
      have f1 := hfz 5
      have f2 := hfz2 0
      have f3 := hfz2 1
      have f4 := hfz2 2
      have f5 := hfz2 3
      have f6 := hfz2 4
      have f7 := hfz2 5
      clear hfz hfz2
      have hbs : b + 1 < wr.heap.size := by have := HF.out.size; have := HS0.out; omega
      have HB2 : Hid (wr.ownsRow (b + 2) 60 7 (.slice o cs.length c) cs.length (ccells (cs.map CM.dft))) := by
        have := HB.out
        unfold CBuf at this
        rw [HCS.out, List.length_map] at this
        exact this
      have HCL : Hid (cs.length ≤ c) := own_le HB2.out
      have HBL : Hid (∀ ad : Addr, o = some ad → b + 2 ≤ ad.block) := fun ad e => (World.ownsRow.lt HB2.out ad.block (by rw [e]; rfl)).1
      go_wp2
      refine bodyPost_ret (v := .agg #[.string name, .string ns2, .int .i64 rs, .int .i64 gr2, .bool ho, .slice o cs.length c]) (by simp [results, Tryd.f13, go_sem, *]) rfl ⟨o, c, ?_, ⟨?_, ?_, ?_⟩, ?_⟩
      · rw [HD.out]; simp only [List.length_map]
      · rw [HD.out]
        have hr : RowAt wr o (ccells (cs.map CM.dft)) := RowAt.owns HB2.out
        repeat (refine RowAt.set ?_ (fun ad e => by have := HBL.out ad e; simp; omega) _)
        exact hr
      · rw [HD.out]
        intro m hm
        obtain ⟨m0, hm0, rfl⟩ := List.mem_map.1 hm
        refine dft_in ((HINS.out m0 hm0).move ?_)
        repeat (refine Fresh.setCell ?_ (by have := HBW.out; simp; omega) _)
        exact HF0.out.trans HF.out
      · rw [HD.out]
        simp only [List.length_map]
        exact HCL.out
      · repeat (refine Fresh.setCell ?_ (by have := HBW.out; simp; omega) _)
        exact HF0.out.trans HF.out
end Go.Proofs.YtfhhmajkacjbgaaDoor
namespace Go.Proofs.YtfhhmajkacjbgaaDoor
open Go.ChangeShapes Go.WideShapes Go.ChangeAt Go.RowKit

set_option maxRecDepth 100000 in
set_option maxHeartbeats 4000000 in
theorem rdef_B (name ns : ByteArray) (rs gr : Int) (ho : Bool) (a : Option Addr) (cap : Nat) (cs : List CM) (w : World) (hr : RowAt w a (ccells cs)) (hin : ∀ m ∈ cs, m.In w) (hl : cs.length ≤ 1048576) (hns : ns = ⟨#[]⟩) (hg : ¬ gr = 0) :
    Calls Tryd.prog 13 #[.agg #[.string name, .string ns, .int .i64 rs, .int .i64 gr, .bool ho, .slice a cs.length cap]] w fun e w' => ∃ a' cap', e = .returned ((PM.mk name ns rs gr ho a cap cs).dft a' cap').val ∧ ((PM.mk name ns rs gr ho a cap cs).dft a' cap').At w' ∧ Fresh w w' := by
  have HROW := Lib.hid hr
  have HINS := Lib.hid hin
  obtain ⟨i0, hi, hz0, hz1, hz2⟩ := info_parts infoC
  dsimp only [PM.val] at *
  clear hr hin
  obtain ⟨ns2, hns2⟩ : ∃ s, s = if ns.size = 0 then nsDef else ns := ⟨_, rfl⟩
  obtain ⟨gr2, hgr2⟩ : ∃ s, s = if gr = 0 then (30 : Int) else gr := ⟨_, rfl⟩
  have HD : Hid (∀ a' cap', (PM.mk name ns rs gr ho a cap cs).dft a' cap' = ⟨name, ns2, rs, gr2, ho, a', cap', cs.map CM.dft⟩) := fun a' cap' => by
    rw [hns2, hgr2]; rfl
  subst hns
  have HN : Hid (ns2 = nsDef) := hns2
  have HG : Hid (gr2 = gr) := hgr2.trans (if_neg hg)
  clear hns2 hgr2
  have e1 : (gr == 0) = false := by rw [beq_eq_false_iff_ne]; exact hg
  go_enter Tryd.func13, Tryd.ntmps13
  go_wp2
  refine (fun W0 hpre => ?_ : ∀ W0, DPre 30 w W0 name ns2 rs gr2 ho a cs.length cap → Code.wp _ _ _ _ W0) _ (by
      rw [HN.out, HG.out]
      first
        | exact dpre0 _ _ _ _ _ _ _ _ _ _
        | exact (dpre0 _ _ _ _ _ _ _ _ _ _).setNs _
        | exact (dpre0 _ _ _ _ _ _ _ _ _ _).setGr _
        | exact ((dpre0 _ _ _ _ _ _ _ _ _ _).setNs _).setGr _)
  clear HN HG
  have HA1 := Lib.hid hpre.at1
  have HA2 := Lib.hid hpre.at2
  have HF0 := Lib.hid hpre.fr
  have HS0 := Lib.hid hpre.sz
  have HROW0 := Lib.hid (HROW.out.move hpre.fr)
  clear hpre HROW
  try clear e0
  have hcs : ((cs.take cs.length).map CM.dft) = cs.map CM.dft := by rw [List.take_length]
  have HCS := Lib.hid hcs
  clear hcs
  obtain ⟨b, hb⟩ : ∃ b, b = w.heap.size := ⟨_, rfl⟩
  rw [← hb] at HA1 HA2 HS0 ⊢
  have HBW := Lib.hid hb
  clear hb
  go_loopw [3, 4] (fun a3 a4 wr => ∃ (k : Nat) (v : Value), a3 = v ∧ a4 = .int .i64 (k : Int) ∧ k ≤ cs.length ∧ Hid (CBuf 60 wr (b + 2) v ((cs.take k).map CM.dft)) ∧ Hid (Fresh W0 wr)) (fun _ a4 _ => cs.length - (intOf a4).toNat)
  case atStart => exact ⟨0, _, rfl, rfl, Nat.zero_le _, World.ownsRow_nil _ _ _ _, Fresh.refl _⟩
  case round =>
    obtain ⟨k, v, rfl, rfl, hk, HB, HF⟩ := hrel
    obtain ⟨o, c, hv⟩ := cbuf_shape HB.out
    have hml : ((cs.take k).map CM.dft).length = k := by rw [List.length_map, List.length_take]; omega
    rw [hml] at hv
    subst hv
    obtain ⟨⟨p0, p1, p2, p3, p4, p5⟩, hfz⟩ := box6p (HF.out.at HA1.out)
    have HFZ := Lib.hid hfz
    by_cases hlt : k < cs.length
    · obtain ⟨g, o1, rfl, hc⟩ := crow_form (HROW0.out.move HF.out) hlt
      obtain ⟨c0, c1, c2, c3, c4, c5, c6⟩ := hc k hlt
      have HN : Hid ((cs.take (k + 1)).map CM.dft = (cs.take k).map CM.dft ++ [cs[k].dft]) := by
        rw [Hid, List.take_succ_eq_append_getElem hlt, List.map_append]; rfl
      obtain ⟨m, hm⟩ : ∃ m, m = cs[k] := ⟨_, rfl⟩
      rw [← hm] at c0 c1 c2 c3 c4 c5 c6 HN
      have HM := Lib.hid hm
      clear hc hm hml hfz
      have HSET := Lib.hid (box7_set 60 wr m.c.name m.c.image (.slice m.ca m.c.cmd.length m.cc) (.slice m.pa m.c.ports.length m.pc) m.c.cpu m.c.mem (.slice m.ea m.c.env.length m.ec))
      have HDFT : Hid (m.dft.cells = [.string m.c.name, .string m.c.image, .slice m.ca m.c.cmd.length m.cc, .slice m.pa m.c.ports.length m.pc, .int .i64 (if m.c.cpu = 0 then 100 else m.c.cpu), .int .i64 (if m.c.mem = 0 then 64 else m.c.mem), .slice m.ea m.c.env.length m.ec]) := rfl
      generalize m.c.name = mn at *
      generalize m.c.image = mi at *
      generalize m.c.cmd.length = lc at *
      generalize m.c.ports.length = lp at *
      generalize m.c.env.length = le at *
      generalize m.c.cpu = cpu at *
      generalize m.c.mem = mem at *
      generalize m.ca = ca at *
      generalize m.cc = cc at *
      generalize m.pa = pa at *
      generalize m.pc = pc at *
      generalize m.ea = ea at *
      generalize m.ec = ec at *
      have hbs : b + 2 ≤ wr.heap.size := by have := HF.out.size; have := HS0.out; omega
      have HB2 : Hid (wr.ownsRow (b + 2) 60 7 (.slice o k c) k (ccells ((cs.take k).map CM.dft))) := by
        have := HB.out
        unfold CBuf at this
        rw [List.length_map, List.length_take, Nat.min_eq_left (by omega)] at this
        exact this
      have HLT : Hid (∀ g, (Value.slice o k c).ownBlock = some g → W0.heap.size ≤ g) := fun g e => by have := (World.ownsRow.lt HB2.out g e).1; have := HS0.out; omega
      have HLK : Hid (((cs.take k).map CM.dft).length = k) := by rw [Hid, List.length_map, List.length_take]; omega
      have HNEWS : Hid (∀ x y : Int, ∀ j u, [Value.string mn, .string mi, .slice ca lc cc, .slice pa lp pc, .int .i64 x, .int .i64 y, .slice ea le ec][j]? = some u → ((wr.alloc (.cells #[.string mn, .string mi, .slice ca lc cc, .slice pa lp pc, .int .i64 x, .int .i64 y, .slice ea le ec] 60)).alloc (.cells #[.string mn, .string mi, .slice ca lc cc, .slice pa lp pc, .int .i64 x, .int .i64 y, .slice ea le ec] 60)).cell? ((⟨wr.heap.size + 1, 0, none⟩ : Addr).add j) = some u) := fun x y => by
        have := news7 (wr.alloc (.cells #[.string mn, .string mi, .slice ca lc cc, .slice pa lp pc, .int .i64 x, .int .i64 y, .slice ea le ec] 60)) 60 [.string mn, .string mi, .slice ca lc cc, .slice pa lp pc, .int .i64 x, .int .i64 y, .slice ea le ec]
        rw [World.size_alloc] at this
        exact this
      have HMORE : Hid (∀ (A : World) (u : Value), A.ownsRow (b + 2) 60 7 u (k + 1) (ccells ((cs.take k).map CM.dft) ++ m.dft.cells) → CBuf 60 A (b + 2) u ((cs.take (k + 1)).map CM.dft)) := fun A u h => by
        rw [HN.out]
        exact CBuf.more (by rw [HLK.out]; exact h)
      clear HSET HLK
      by_cases h1 : cpu = 0 <;> by_cases h2 : mem = 0
      · subst h1 h2
        have HD2 : Hid (m.dft.cells = _) := HDFT.out
        rw [if_pos rfl, if_pos rfl] at HD2
        clear HDFT
        go_wp2_with (at_builtin; refine wpList_append_own _ rfl _ _ 28 rfl (b + 2) 60 i0 (.agg #[.string ⟨#[]⟩, .string ⟨#[]⟩, .slice none 0 0, .slice none 0 0, .int .i64 0, .int .i64 0, .slice none 0 0]) 7 120 Tryd.underlying28 hi hz0 hz1 hz2 rfl (by decide) _ k _ rfl (World.ownsRow.alloc (World.ownsRow.alloc HB2.out _) _) ⟨wr.heap.size + 1, 0, none⟩ 1 1 [.string mn, .string mi, .slice ca lc cc, .slice pa lp pc, .int .i64 100, .int .i64 64, .slice ea le ec] rfl rfl (HNEWS.out 100 64) (by simp [Value.oneCell']) (by unfold maxLen; omega) (by omega) (by rw [World.size_alloc, World.size_alloc]; omega) ?_; intro v' w3 hown' hgrow _; obtain ⟨g', cap', rfl⟩ := ownsRow_succ hown'; have HOWN := Lib.hid hown'; have HGROW := Lib.hid hgrow; clear hown' hgrow)
        go_roundw
        case rel => exact ⟨k + 1, _, rfl, by simp, by omega, HMORE.out _ _ (by rw [HD2.out]; exact HOWN.out), ((HF.out.alloc _).alloc _).grown HGROW.out HLT.out⟩
        case measure => simp [intOf]; omega
      · subst h1
        have HD2 : Hid (m.dft.cells = _) := HDFT.out
        rw [if_pos rfl, if_neg h2] at HD2
        clear HDFT
        go_wp2_with (at_builtin; refine wpList_append_own _ rfl _ _ 28 rfl (b + 2) 60 i0 (.agg #[.string ⟨#[]⟩, .string ⟨#[]⟩, .slice none 0 0, .slice none 0 0, .int .i64 0, .int .i64 0, .slice none 0 0]) 7 120 Tryd.underlying28 hi hz0 hz1 hz2 rfl (by decide) _ k _ rfl (World.ownsRow.alloc (World.ownsRow.alloc HB2.out _) _) ⟨wr.heap.size + 1, 0, none⟩ 1 1 [.string mn, .string mi, .slice ca lc cc, .slice pa lp pc, .int .i64 100, .int .i64 mem, .slice ea le ec] rfl rfl (HNEWS.out 100 mem) (by simp [Value.oneCell']) (by unfold maxLen; omega) (by omega) (by rw [World.size_alloc, World.size_alloc]; omega) ?_; intro v' w3 hown' hgrow _; obtain ⟨g', cap', rfl⟩ := ownsRow_succ hown'; have HOWN := Lib.hid hown'; have HGROW := Lib.hid hgrow; clear hown' hgrow)
        go_roundw
        case rel => exact ⟨k + 1, _, rfl, by simp, by omega, HMORE.out _ _ (by rw [HD2.out]; exact HOWN.out), ((HF.out.alloc _).alloc _).grown HGROW.out HLT.out⟩
        case measure => simp [intOf]; omega
      · subst h2
        have HD2 : Hid (m.dft.cells = _) := HDFT.out
        rw [if_neg h1, if_pos rfl] at HD2
        clear HDFT
        go_wp2_with (at_builtin; refine wpList_append_own _ rfl _ _ 28 rfl (b + 2) 60 i0 (.agg #[.string ⟨#[]⟩, .string ⟨#[]⟩, .slice none 0 0, .slice none 0 0, .int .i64 0, .int .i64 0, .slice none 0 0]) 7 120 Tryd.underlying28 hi hz0 hz1 hz2 rfl (by decide) _ k _ rfl (World.ownsRow.alloc (World.ownsRow.alloc HB2.out _) _) ⟨wr.heap.size + 1, 0, none⟩ 1 1 [.string mn, .string mi, .slice ca lc cc, .slice pa lp pc, .int .i64 cpu, .int .i64 64, .slice ea le ec] rfl rfl (HNEWS.out cpu 64) (by simp [Value.oneCell']) (by unfold maxLen; omega) (by omega) (by rw [World.size_alloc, World.size_alloc]; omega) ?_; intro v' w3 hown' hgrow _; obtain ⟨g', cap', rfl⟩ := ownsRow_succ hown'; have HOWN := Lib.hid hown'; have HGROW := Lib.hid hgrow; clear hown' hgrow)
        go_roundw
        case rel => exact ⟨k + 1, _, rfl, by simp, by omega, HMORE.out _ _ (by rw [HD2.out]; exact HOWN.out), ((HF.out.alloc _).alloc _).grown HGROW.out HLT.out⟩
        case measure => simp [intOf]; omega
      · have HD2 : Hid (m.dft.cells = _) := HDFT.out
        rw [if_neg h1, if_neg h2] at HD2
        clear HDFT
        go_wp2_with (at_builtin; refine wpList_append_own _ rfl _ _ 28 rfl (b + 2) 60 i0 (.agg #[.string ⟨#[]⟩, .string ⟨#[]⟩, .slice none 0 0, .slice none 0 0, .int .i64 0, .int .i64 0, .slice none 0 0]) 7 120 Tryd.underlying28 hi hz0 hz1 hz2 rfl (by decide) _ k _ rfl (World.ownsRow.alloc (World.ownsRow.alloc HB2.out _) _) ⟨wr.heap.size + 1, 0, none⟩ 1 1 [.string mn, .string mi, .slice ca lc cc, .slice pa lp pc, .int .i64 cpu, .int .i64 mem, .slice ea le ec] rfl rfl (HNEWS.out cpu mem) (by simp [Value.oneCell']) (by unfold maxLen; omega) (by omega) (by rw [World.size_alloc, World.size_alloc]; omega) ?_; intro v' w3 hown' hgrow _; obtain ⟨g', cap', rfl⟩ := ownsRow_succ hown'; have HOWN := Lib.hid hown'; have HGROW := Lib.hid hgrow; clear hown' hgrow)
        go_roundw
        case rel => exact ⟨k + 1, _, rfl, by simp, by omega, HMORE.out _ _ (by rw [HD2.out]; exact HOWN.out), ((HF.out.alloc _).alloc _).grown HGROW.out HLT.out⟩
        case measure => simp [intOf]; omega
    · obtain rfl : k = cs.length := by omega
      obtain ⟨⟨q0, q1, q2, q3, q4, q5⟩, hfz2⟩ := box6p (HF.out.at HA2.out)
      have f1 := hfz 5
      have f2 := hfz2 0
      have f3 := hfz2 1
      have f4 := hfz2 2
      have f5 := hfz2 3
      have f6 := hfz2 4
      have f7 := hfz2 5
      clear hfz hfz2
      have hbs : b + 1 < wr.heap.size := by have := HF.out.size; have := HS0.out; omega
      have HB2 : Hid (wr.ownsRow (b + 2) 60 7 (.slice o cs.length c) cs.length (ccells (cs.map CM.dft))) := by
        have := HB.out
        unfold CBuf at this
        rw [HCS.out, List.length_map] at this
        exact this
      have HCL : Hid (cs.length ≤ c) := own_le HB2.out
      have HBL : Hid (∀ ad : Addr, o = some ad → b + 2 ≤ ad.block) := fun ad e => (World.ownsRow.lt HB2.out ad.block (by rw [e]; rfl)).1
      go_wp2
      refine bodyPost_ret (v := .agg #[.string name, .string ns2, .int .i64 rs, .int .i64 gr2, .bool ho, .slice o cs.length c]) (by simp [results, Tryd.f13, go_sem, *]) rfl ⟨o, c, ?_, ⟨?_, ?_, ?_⟩, ?_⟩
      · rw [HD.out]; simp only [List.length_map]
      · rw [HD.out]
        have hr : RowAt wr o (ccells (cs.map CM.dft)) := RowAt.owns HB2.out
        repeat (refine RowAt.set ?_ (fun ad e => by have := HBL.out ad e; simp; omega) _)
        exact hr
      · rw [HD.out]
        intro m hm
        obtain ⟨m0, hm0, rfl⟩ := List.mem_map.1 hm
        refine dft_in ((HINS.out m0 hm0).move ?_)
        repeat (refine Fresh.setCell ?_ (by have := HBW.out; simp; omega) _)
        exact HF0.out.trans HF.out
      · rw [HD.out]
        simp only [List.length_map]
        exact HCL.out
      · repeat (refine Fresh.setCell ?_ (by have := HBW.out; simp; omega) _)
        exact HF0.out.trans HF.out
end Go.Proofs.YtfhhmajkacjbgaaDoor
namespace Go.Proofs.YtfhhmajkacjbgaaDoor
open Go.ChangeShapes Go.WideShapes Go.ChangeAt Go.RowKit

set_option maxRecDepth 100000 in
set_option maxHeartbeats 4000000 in
theorem rdef_C (name ns : ByteArray) (rs gr : Int) (ho : Bool) (a : Option Addr) (cap : Nat) (cs : List CM) (w : World) (hr : RowAt w a (ccells cs)) (hin : ∀ m ∈ cs, m.In w) (hl : cs.length ≤ 1048576) (hns : ¬ ns = ⟨#[]⟩) (hg : gr = 0) :
    Calls Tryd.prog 13 #[.agg #[.string name, .string ns, .int .i64 rs, .int .i64 gr, .bool ho, .slice a cs.length cap]] w fun e w' => ∃ a' cap', e = .returned ((PM.mk name ns rs gr ho a cap cs).dft a' cap').val ∧ ((PM.mk name ns rs gr ho a cap cs).dft a' cap').At w' ∧ Fresh w w' := by
  have HROW := Lib.hid hr
  have HINS := Lib.hid hin
  obtain ⟨i0, hi, hz0, hz1, hz2⟩ := info_parts infoC
  dsimp only [PM.val] at *
  clear hr hin
  obtain ⟨ns2, hns2⟩ : ∃ s, s = if ns.size = 0 then nsDef else ns := ⟨_, rfl⟩
  obtain ⟨gr2, hgr2⟩ : ∃ s, s = if gr = 0 then (30 : Int) else gr := ⟨_, rfl⟩
  have HD : Hid (∀ a' cap', (PM.mk name ns rs gr ho a cap cs).dft a' cap' = ⟨name, ns2, rs, gr2, ho, a', cap', cs.map CM.dft⟩) := fun a' cap' => by
    rw [hns2, hgr2]; rfl
  subst hg
  have HN : Hid (ns2 = ns) := hns2.trans (if_neg (fun e => hns (ByteArray.ext (Array.eq_empty_of_size_eq_zero e))))
  have HG : Hid (gr2 = 30) := hgr2
  have e0 := tl_some hns
  clear hns2 hgr2
  go_enter Tryd.func13, Tryd.ntmps13
  go_wp2
  refine (fun W0 hpre => ?_ : ∀ W0, DPre 30 w W0 name ns2 rs gr2 ho a cs.length cap → Code.wp _ _ _ _ W0) _ (by
      rw [HN.out, HG.out]
      first
        | exact dpre0 _ _ _ _ _ _ _ _ _ _
        | exact (dpre0 _ _ _ _ _ _ _ _ _ _).setNs _
        | exact (dpre0 _ _ _ _ _ _ _ _ _ _).setGr _
        | exact ((dpre0 _ _ _ _ _ _ _ _ _ _).setNs _).setGr _)
  clear HN HG
  have HA1 := Lib.hid hpre.at1
  have HA2 := Lib.hid hpre.at2
  have HF0 := Lib.hid hpre.fr
  have HS0 := Lib.hid hpre.sz
  have HROW0 := Lib.hid (HROW.out.move hpre.fr)
  clear hpre HROW
  try clear e0
  have hcs : ((cs.take cs.length).map CM.dft) = cs.map CM.dft := by rw [List.take_length]
  have HCS := Lib.hid hcs
  clear hcs
  obtain ⟨b, hb⟩ : ∃ b, b = w.heap.size := ⟨_, rfl⟩
  rw [← hb] at HA1 HA2 HS0 ⊢
  have HBW := Lib.hid hb
  clear hb
  go_loopw [3, 4] (fun a3 a4 wr => ∃ (k : Nat) (v : Value), a3 = v ∧ a4 = .int .i64 (k : Int) ∧ k ≤ cs.length ∧ Hid (CBuf 60 wr (b + 2) v ((cs.take k).map CM.dft)) ∧ Hid (Fresh W0 wr)) (fun _ a4 _ => cs.length - (intOf a4).toNat)
  case atStart => exact ⟨0, _, rfl, rfl, Nat.zero_le _, World.ownsRow_nil _ _ _ _, Fresh.refl _⟩
  case round =>
    obtain ⟨k, v, rfl, rfl, hk, HB, HF⟩ := hrel
    obtain ⟨o, c, hv⟩ := cbuf_shape HB.out
    have hml : ((cs.take k).map CM.dft).length = k := by rw [List.length_map, List.length_take]; omega
    rw [hml] at hv
    subst hv
    obtain ⟨⟨p0, p1, p2, p3, p4, p5⟩, hfz⟩ := box6p (HF.out.at HA1.out)
    have HFZ := Lib.hid hfz
    by_cases hlt : k < cs.length
    · obtain ⟨g, o1, rfl, hc⟩ := crow_form (HROW0.out.move HF.out) hlt
      obtain ⟨c0, c1, c2, c3, c4, c5, c6⟩ := hc k hlt
      have HN : Hid ((cs.take (k + 1)).map CM.dft = (cs.take k).map CM.dft ++ [cs[k].dft]) := by
        rw [Hid, List.take_succ_eq_append_getElem hlt, List.map_append]; rfl
      obtain ⟨m, hm⟩ : ∃ m, m = cs[k] := ⟨_, rfl⟩
      rw [← hm] at c0 c1 c2 c3 c4 c5 c6 HN
      have HM := Lib.hid hm
      clear hc hm hml hfz
      have HSET := Lib.hid (box7_set 60 wr m.c.name m.c.image (.slice m.ca m.c.cmd.length m.cc) (.slice m.pa m.c.ports.length m.pc) m.c.cpu m.c.mem (.slice m.ea m.c.env.length m.ec))
      have HDFT : Hid (m.dft.cells = [.string m.c.name, .string m.c.image, .slice m.ca m.c.cmd.length m.cc, .slice m.pa m.c.ports.length m.pc, .int .i64 (if m.c.cpu = 0 then 100 else m.c.cpu), .int .i64 (if m.c.mem = 0 then 64 else m.c.mem), .slice m.ea m.c.env.length m.ec]) := rfl
      generalize m.c.name = mn at *
      generalize m.c.image = mi at *
      generalize m.c.cmd.length = lc at *
      generalize m.c.ports.length = lp at *
      generalize m.c.env.length = le at *
      generalize m.c.cpu = cpu at *
      generalize m.c.mem = mem at *
      generalize m.ca = ca at *
      generalize m.cc = cc at *
      generalize m.pa = pa at *
      generalize m.pc = pc at *
      generalize m.ea = ea at *
      generalize m.ec = ec at *
      have hbs : b + 2 ≤ wr.heap.size := by have := HF.out.size; have := HS0.out; omega
      have HB2 : Hid (wr.ownsRow (b + 2) 60 7 (.slice o k c) k (ccells ((cs.take k).map CM.dft))) := by
        have := HB.out
        unfold CBuf at this
        rw [List.length_map, List.length_take, Nat.min_eq_left (by omega)] at this
        exact this
      have HLT : Hid (∀ g, (Value.slice o k c).ownBlock = some g → W0.heap.size ≤ g) := fun g e => by have := (World.ownsRow.lt HB2.out g e).1; have := HS0.out; omega
      have HLK : Hid (((cs.take k).map CM.dft).length = k) := by rw [Hid, List.length_map, List.length_take]; omega
      have HNEWS : Hid (∀ x y : Int, ∀ j u, [Value.string mn, .string mi, .slice ca lc cc, .slice pa lp pc, .int .i64 x, .int .i64 y, .slice ea le ec][j]? = some u → ((wr.alloc (.cells #[.string mn, .string mi, .slice ca lc cc, .slice pa lp pc, .int .i64 x, .int .i64 y, .slice ea le ec] 60)).alloc (.cells #[.string mn, .string mi, .slice ca lc cc, .slice pa lp pc, .int .i64 x, .int .i64 y, .slice ea le ec] 60)).cell? ((⟨wr.heap.size + 1, 0, none⟩ : Addr).add j) = some u) := fun x y => by
        have := news7 (wr.alloc (.cells #[.string mn, .string mi, .slice ca lc cc, .slice pa lp pc, .int .i64 x, .int .i64 y, .slice ea le ec] 60)) 60 [.string mn, .string mi, .slice ca lc cc, .slice pa lp pc, .int .i64 x, .int .i64 y, .slice ea le ec]
        rw [World.size_alloc] at this
        exact this
      have HMORE : Hid (∀ (A : World) (u : Value), A.ownsRow (b + 2) 60 7 u (k + 1) (ccells ((cs.take k).map CM.dft) ++ m.dft.cells) → CBuf 60 A (b + 2) u ((cs.take (k + 1)).map CM.dft)) := fun A u h => by
        rw [HN.out]
        exact CBuf.more (by rw [HLK.out]; exact h)
      clear HSET HLK
      by_cases h1 : cpu = 0 <;> by_cases h2 : mem = 0
      · subst h1 h2
        have HD2 : Hid (m.dft.cells = _) := HDFT.out
        rw [if_pos rfl, if_pos rfl] at HD2
        clear HDFT
        go_wp2_with (at_builtin; refine wpList_append_own _ rfl _ _ 28 rfl (b + 2) 60 i0 (.agg #[.string ⟨#[]⟩, .string ⟨#[]⟩, .slice none 0 0, .slice none 0 0, .int .i64 0, .int .i64 0, .slice none 0 0]) 7 120 Tryd.underlying28 hi hz0 hz1 hz2 rfl (by decide) _ k _ rfl (World.ownsRow.alloc (World.ownsRow.alloc HB2.out _) _) ⟨wr.heap.size + 1, 0, none⟩ 1 1 [.string mn, .string mi, .slice ca lc cc, .slice pa lp pc, .int .i64 100, .int .i64 64, .slice ea le ec] rfl rfl (HNEWS.out 100 64) (by simp [Value.oneCell']) (by unfold maxLen; omega) (by omega) (by rw [World.size_alloc, World.size_alloc]; omega) ?_; intro v' w3 hown' hgrow _; obtain ⟨g', cap', rfl⟩ := ownsRow_succ hown'; have HOWN := Lib.hid hown'; have HGROW := Lib.hid hgrow; clear hown' hgrow)
        go_roundw
        case rel => exact ⟨k + 1, _, rfl, by simp, by omega, HMORE.out _ _ (by rw [HD2.out]; exact HOWN.out), ((HF.out.alloc _).alloc _).grown HGROW.out HLT.out⟩
        case measure => simp [intOf]; omega
      · subst h1
        have HD2 : Hid (m.dft.cells = _) := HDFT.out
        rw [if_pos rfl, if_neg h2] at HD2
        clear HDFT
        go_wp2_with (at_builtin; refine wpList_append_own _ rfl _ _ 28 rfl (b + 2) 60 i0 (.agg #[.string ⟨#[]⟩, .string ⟨#[]⟩, .slice none 0 0, .slice none 0 0, .int .i64 0, .int .i64 0, .slice none 0 0]) 7 120 Tryd.underlying28 hi hz0 hz1 hz2 rfl (by decide) _ k _ rfl (World.ownsRow.alloc (World.ownsRow.alloc HB2.out _) _) ⟨wr.heap.size + 1, 0, none⟩ 1 1 [.string mn, .string mi, .slice ca lc cc, .slice pa lp pc, .int .i64 100, .int .i64 mem, .slice ea le ec] rfl rfl (HNEWS.out 100 mem) (by simp [Value.oneCell']) (by unfold maxLen; omega) (by omega) (by rw [World.size_alloc, World.size_alloc]; omega) ?_; intro v' w3 hown' hgrow _; obtain ⟨g', cap', rfl⟩ := ownsRow_succ hown'; have HOWN := Lib.hid hown'; have HGROW := Lib.hid hgrow; clear hown' hgrow)
        go_roundw
        case rel => exact ⟨k + 1, _, rfl, by simp, by omega, HMORE.out _ _ (by rw [HD2.out]; exact HOWN.out), ((HF.out.alloc _).alloc _).grown HGROW.out HLT.out⟩
        case measure => simp [intOf]; omega
      · subst h2
        have HD2 : Hid (m.dft.cells = _) := HDFT.out
        rw [if_neg h1, if_pos rfl] at HD2
        clear HDFT
        go_wp2_with (at_builtin; refine wpList_append_own _ rfl _ _ 28 rfl (b + 2) 60 i0 (.agg #[.string ⟨#[]⟩, .string ⟨#[]⟩, .slice none 0 0, .slice none 0 0, .int .i64 0, .int .i64 0, .slice none 0 0]) 7 120 Tryd.underlying28 hi hz0 hz1 hz2 rfl (by decide) _ k _ rfl (World.ownsRow.alloc (World.ownsRow.alloc HB2.out _) _) ⟨wr.heap.size + 1, 0, none⟩ 1 1 [.string mn, .string mi, .slice ca lc cc, .slice pa lp pc, .int .i64 cpu, .int .i64 64, .slice ea le ec] rfl rfl (HNEWS.out cpu 64) (by simp [Value.oneCell']) (by unfold maxLen; omega) (by omega) (by rw [World.size_alloc, World.size_alloc]; omega) ?_; intro v' w3 hown' hgrow _; obtain ⟨g', cap', rfl⟩ := ownsRow_succ hown'; have HOWN := Lib.hid hown'; have HGROW := Lib.hid hgrow; clear hown' hgrow)
        go_roundw
        case rel => exact ⟨k + 1, _, rfl, by simp, by omega, HMORE.out _ _ (by rw [HD2.out]; exact HOWN.out), ((HF.out.alloc _).alloc _).grown HGROW.out HLT.out⟩
        case measure => simp [intOf]; omega
      · have HD2 : Hid (m.dft.cells = _) := HDFT.out
        rw [if_neg h1, if_neg h2] at HD2
        clear HDFT
        go_wp2_with (at_builtin; refine wpList_append_own _ rfl _ _ 28 rfl (b + 2) 60 i0 (.agg #[.string ⟨#[]⟩, .string ⟨#[]⟩, .slice none 0 0, .slice none 0 0, .int .i64 0, .int .i64 0, .slice none 0 0]) 7 120 Tryd.underlying28 hi hz0 hz1 hz2 rfl (by decide) _ k _ rfl (World.ownsRow.alloc (World.ownsRow.alloc HB2.out _) _) ⟨wr.heap.size + 1, 0, none⟩ 1 1 [.string mn, .string mi, .slice ca lc cc, .slice pa lp pc, .int .i64 cpu, .int .i64 mem, .slice ea le ec] rfl rfl (HNEWS.out cpu mem) (by simp [Value.oneCell']) (by unfold maxLen; omega) (by omega) (by rw [World.size_alloc, World.size_alloc]; omega) ?_; intro v' w3 hown' hgrow _; obtain ⟨g', cap', rfl⟩ := ownsRow_succ hown'; have HOWN := Lib.hid hown'; have HGROW := Lib.hid hgrow; clear hown' hgrow)
        go_roundw
        case rel => exact ⟨k + 1, _, rfl, by simp, by omega, HMORE.out _ _ (by rw [HD2.out]; exact HOWN.out), ((HF.out.alloc _).alloc _).grown HGROW.out HLT.out⟩
        case measure => simp [intOf]; omega
    · obtain rfl : k = cs.length := by omega
      obtain ⟨⟨q0, q1, q2, q3, q4, q5⟩, hfz2⟩ := box6p (HF.out.at HA2.out)
      have f1 := hfz 5
      have f2 := hfz2 0
      have f3 := hfz2 1
      have f4 := hfz2 2
      have f5 := hfz2 3
      have f6 := hfz2 4
      have f7 := hfz2 5
      clear hfz hfz2
      have hbs : b + 1 < wr.heap.size := by have := HF.out.size; have := HS0.out; omega
      have HB2 : Hid (wr.ownsRow (b + 2) 60 7 (.slice o cs.length c) cs.length (ccells (cs.map CM.dft))) := by
        have := HB.out
        unfold CBuf at this
        rw [HCS.out, List.length_map] at this
        exact this
      have HCL : Hid (cs.length ≤ c) := own_le HB2.out
      have HBL : Hid (∀ ad : Addr, o = some ad → b + 2 ≤ ad.block) := fun ad e => (World.ownsRow.lt HB2.out ad.block (by rw [e]; rfl)).1
      go_wp2
      refine bodyPost_ret (v := .agg #[.string name, .string ns2, .int .i64 rs, .int .i64 gr2, .bool ho, .slice o cs.length c]) (by simp [results, Tryd.f13, go_sem, *]) rfl ⟨o, c, ?_, ⟨?_, ?_, ?_⟩, ?_⟩
      · rw [HD.out]; simp only [List.length_map]
      · rw [HD.out]
        have hr : RowAt wr o (ccells (cs.map CM.dft)) := RowAt.owns HB2.out
        repeat (refine RowAt.set ?_ (fun ad e => by have := HBL.out ad e; simp; omega) _)
        exact hr
      · rw [HD.out]
        intro m hm
        obtain ⟨m0, hm0, rfl⟩ := List.mem_map.1 hm
        refine dft_in ((HINS.out m0 hm0).move ?_)
        repeat (refine Fresh.setCell ?_ (by have := HBW.out; simp; omega) _)
        exact HF0.out.trans HF.out
      · rw [HD.out]
        simp only [List.length_map]
        exact HCL.out
      · repeat (refine Fresh.setCell ?_ (by have := HBW.out; simp; omega) _)
        exact HF0.out.trans HF.out
end Go.Proofs.YtfhhmajkacjbgaaDoor
