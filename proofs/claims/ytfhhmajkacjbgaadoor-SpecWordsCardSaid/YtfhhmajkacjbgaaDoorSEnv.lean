/-
  What is wrong with variables.
-/
import Derived.Test.YtfhhmajkacjbgaaDoorSFun
import Derived.Test.YtfhhmajkacjbgaaDoorSSeen
import Derived.Test.YtfhhmajkacjbgaaDoorSVar
import Derived.Test.YtfhhmajkacjbgaaDoorSDef2
import Derived.RegionTactic
import Derived.Deep.RegionHeld3
namespace Go.Proofs.YtfhhmajkacjbgaaDoor
open Go.ChangeShapes Go.WideShapes Go.ChangeAt Go.RowKit
attribute [local go_sem ↓] Go.wp_at_zero Go.wp_at_succ

theorem cell_grown {w w' : World} {b : Nat} (hg : w.grownBy w' (some b)) {p : Addr} {v : Value} (hc : w.cell? p = some v) (hne : p.block ≠ b) : w'.cell? p = some v := by
  have h1 := World.block_lt_of_cell? w p hc
  have h2 := hg.block p.block h1 (fun e => hne (by cases e; rfl))
  unfold World.cell? at hc ⊢
  rw [h2]; exact hc
theorem nameE_var (v : ByteArray × ByteArray) (r : List (ByteArray × ByteArray)) (al : List ByteArray) : envE al (v :: r) = if nameE (varB v.1.data.toList) v.1 al = 0 then (if textE v.2 = 0 then envE (al ++ [v.1]) r else textE v.2) else nameE (varB v.1.data.toList) v.1 al := by
  rw [envE]
  unfold nameE
  cases varB v.1.data.toList <;> cases memT v.1 al <;> simp
def namesE (l : List (ByteArray × ByteArray)) : List ByteArray := l.map (·.1)
set_option maxRecDepth 100000 in
set_option maxHeartbeats 2000000 in
theorem envFault_any (l : List (ByteArray × ByteArray)) (a : Option Addr) (c : Nat) (w : World) (hT : Tabs w) (h : RowAt w a (ecells l)) (hl : l.length ≤ 900000) (hn : ∀ v ∈ l, v.1.size ≤ 1000000 ∧ v.2.size ≤ 1000000) :
    Calls Tryd.prog 54 #[.slice a l.length c] w fun e w' => e = .returned (.int .i64 (envE [] l)) ∧ Fresh w w' := by
  have HT := Lib.hid hT
  have HR := Lib.hid h
  have HN := Lib.hid hn
  have hmm := @run_makeMap Tryd.prog
  have HM0 := Lib.hid (seen_made w)
  have HF0 := Lib.hid ((Fresh.refl w).alloc (.map #[] 0))
  clear hT h hn
  go_enter Tryd.func54, Tryd.ntmps54
  go_wp2
  generalize w.alloc (.map #[] 0) = W0 at *
  obtain ⟨b, hb⟩ : ∃ b, b = w.heap.size := ⟨_, rfl⟩
  have HBW := Lib.hid hb
  rw [← hb] at HM0 ⊢
  clear hb hmm
  go_loopw [11] (fun a11 wr => ∃ (k : Nat), a11 = .int .i64 (k : Int) ∧ k ≤ l.length ∧ Hid (envE [] l = envE (namesE (l.take k)) (l.drop k)) ∧ Hid (seenIs wr b k (namesE (l.take k))) ∧ Hid (Fresh w wr)) (fun a11 _ => l.length - (intOf a11).toNat)
  case atStart => exact ⟨0, rfl, Nat.zero_le _, rfl, HM0.out, HF0.out⟩
  case round =>
    obtain ⟨k, rfl, hk, HE, HS, HF⟩ := hrel
    by_cases hlt : k < l.length
    · obtain ⟨g, o1, rfl, hc⟩ := erow_form (HR.out.move HF.out) hlt
      obtain ⟨c0, c1⟩ := hc k hlt
      have HST : Hid (envE [] l = if nameE (varB l[k].1.data.toList) l[k].1 (namesE (l.take k)) = 0 then (if textE l[k].2 = 0 then envE (namesE (l.take (k + 1))) (l.drop (k + 1)) else textE l[k].2) else nameE (varB l[k].1.data.toList) l[k].1 (namesE (l.take k))) := by
        rw [Hid, HE.out, List.drop_eq_getElem_cons hlt, nameE_var, List.take_succ_eq_append_getElem hlt, show namesE (l.take k ++ [l[k]]) = namesE (l.take k) ++ [l[k].1] by unfold namesE; rw [List.map_append]; rfl]
      have HTK : Hid (namesE (l.take (k + 1)) = namesE (l.take k) ++ [l[k].1]) := by
        rw [Hid, List.take_succ_eq_append_getElem hlt, show namesE (l.take k ++ [l[k]]) = namesE (l.take k) ++ [l[k].1] by unfold namesE; rw [List.map_append]; rfl]
      have HSZ : Hid (l[k].1.size ≤ 1000000 ∧ l[k].2.size ≤ 1000000) := HN.out _ (List.getElem_mem hlt)
      clear hc
      generalize l[k].1 = u at *
      generalize l[k].2 = v at *
      have HV := Lib.hid (fun W => variable_any u W (by have := HSZ.out.1; unfold maxLen; omega))
      have HQ : Hid (∀ W, W.heap[b]? = wr.heap[b]? → Calls Tryd.prog 50 #[.string u, .bool (varB u.data.toList), .map (some b)] W fun e w' => e = .returned (.int .i64 (nameE (varB u.data.toList) u (namesE (l.take k)))) ∧ (nameE (varB u.data.toList) u (namesE (l.take k)) = 0 → seenIs w' b (k + 1) (namesE (l.take k) ++ [u])) ∧ W.grownBy w' (some b)) := fun W hW =>
        nameFault_any u _ b k _ W HSZ.out.1 (by omega) (HS.out.move hW)
      have HX : Hid (∀ W, Fresh w W → Calls Tryd.prog 78 #[.string v] W fun e w' => e = .returned (.int .i64 (textE v)) ∧ Fresh W w') := fun W f => textFault_any v W HSZ.out.2 (HT.out.move f)
      have HB9 := Lib.hid (at_new wr (.cells #[.string u, .string v] 64))
      have HF1 := Lib.hid ((Fresh.refl wr).alloc (.cells #[.string u, .string v] 64))
      have HNE : Hid (wr.heap.size ≠ b) := by have := HS.out.lt; rw [Hid]; omega
      have HSB : Hid ((wr.alloc (.cells #[.string u, .string v] 64)).heap[b]? = wr.heap[b]?) := HF1.out.block b HS.out.lt
      generalize nameE (varB u.data.toList) u (namesE (l.take k)) = ne at *
      generalize textE v = te at *
      generalize varB u.data.toList = vb at *
      go_wp2_with (fail)
      all_goals try (exfalso; omega)
      generalize hW1 : wr.alloc (.cells #[.string u, .string v] 64) = W1 at *
      clear hW1
      generalize hz : wr.heap.size = z at *
      clear hz
      have r0 := cell_of_at HB9.out (i := 0) (v := .string u) rfl
      have HKP : Hid (∀ w', W1.drew.grownBy w' (some b) → w'.cell? ⟨z, 0, none⟩ = some (.string u) ∧ w'.cell? ⟨z, 1, none⟩ = some (.string v) ∧ Fresh w w') := fun w' hg =>
        ⟨cell_grown hg (cell_of_at HB9.out (i := 0) (v := .string u) rfl) HNE.out, cell_grown hg (cell_of_at HB9.out (i := 1) (v := .string v) rfl) HNE.out, (HF.out.trans HF1.out).drew.grown hg (fun g e => by cases e; exact Nat.le_of_eq HBW.out.symm)⟩
      have HV2 := Lib.hid (HV.out W1.drew)
      have HQ2 := Lib.hid (HQ.out W1.drew HSB.out)
      go_region_held3 (fun w' => w'.cell? ⟨z, 0, none⟩ = some (.string u)) (go_keep)
        (first | (go_at_call 45; (with_reducible refine HV2.out.mono ?_); rintro e W2 ⟨rfl, rfl⟩) | (go_at_call 50; (with_reducible refine HQ2.out.mono ?_); rintro e W2 ⟨rfl, hs5, hg⟩; have HS5 := Lib.hid hs5; obtain ⟨k0, k1, k2⟩ := HKP.out _ hg; have HF5 := Lib.hid k2; clear hs5 hg k2))
      by_cases hne : ne = 0
      · subst hne
        have HS6 := Lib.hid (HS5.out rfl)
        have HST2 : Hid (envE [] l = if te = 0 then envE (namesE (l.take (k + 1))) (l.drop (k + 1)) else te) := by rw [Hid, HST.out, if_pos rfl]
        clear HST HS5
        go_wp2_with (fail)
        refine (HX.out _ HF5.out).mono ?_
        rintro e W3 ⟨rfl, hf⟩
        have HF6 := Lib.hid (HF5.out.trans hf)
        have HS7 := Lib.hid (HS6.out.fresh hf)
        clear hf
        by_cases hte : te = 0
        · have HN2 : Hid (envE [] l = envE (namesE (l.take (k + 1))) (l.drop (k + 1))) := by rw [Hid, HST2.out, if_pos hte]
          subst hte
          clear HST2
          go_wp2
          all_goals try (exfalso; omega)
          go_roundw
          case rel => exact ⟨k + 1, by simp, by omega, HN2.out, by rw [HTK.out]; exact HS7.out, HF6.out⟩
          case measure => simp [intOf]; omega
        · have HR2 : Hid (envE [] l = te) := by rw [Hid, HST2.out, if_neg hte]
          have e0 : (te == 0) = false := by rw [beq_eq_false_iff_ne]; exact hte
          have e1 : (te != 0) = true := by simp [hte]
          clear HST2
          go_wp2
          all_goals try (exfalso; omega)
          go_ret
          exact ⟨ret_int HR2.out.symm, HF6.out⟩
      · have HR2 : Hid (envE [] l = ne) := by rw [Hid, HST.out, if_neg hne]
        have e0 : (ne == 0) = false := by rw [beq_eq_false_iff_ne]; exact hne
        have e1 : (ne != 0) = true := by simp [hne]
        clear HST
        go_wp2
        all_goals try (exfalso; omega)
        go_ret
        exact ⟨ret_int HR2.out.symm, HF5.out⟩
    · obtain rfl : k = l.length := by omega
      have HR2 : Hid (envE [] l = 0) := by rw [Hid, HE.out, List.drop_length]; rfl
      go_wp2
      all_goals try (exfalso; omega)
      go_ret
      exact ⟨ret_int HR2.out.symm, HF.out⟩
end Go.Proofs.YtfhhmajkacjbgaaDoor
