/-
  The document's rows of a text.
-/
import Derived.Test.YtmenbgdkokegaaaDoorCut
import Derived.Test.YtmenbgdkokegaaaDoorUtf
namespace Go.Proofs.YtmenbgdkokegaaaDoor
open Go.ChangeShapes Go.WideShapes Go.ChangeAt Go.RowKit
attribute [local go_sem ↓] Go.wp_at_zero Go.wp_at_succ
variable {w : World}

theorem trimR_snoc (x : List UInt8) : Lib.trimRightB (x ++ [32]) 32 = Lib.trimRightB x 32 := by simp [Lib.trimRightB]
theorem trimR_stop (x : List UInt8) (c : UInt8) (h : c ≠ 32) : Lib.trimRightB (x ++ [c]) 32 = x ++ [c] := by simp [Lib.trimRightB, h]
def TrimAt (l : List UInt8) (en : Nat) : Prop := Lib.trimRightB l 32 = Lib.trimRightB (l.take en) 32
theorem trimAt_start (l : List UInt8) : TrimAt l l.length := by unfold TrimAt; rw [List.take_length]
theorem trimAt_step {l : List UInt8} {m : Nat} (H : TrimAt l (m + 1)) (h : l[m]? = some 32) : TrimAt l m := by
  unfold TrimAt at *
  rw [H]
  obtain ⟨hm, e⟩ := List.getElem?_eq_some_iff.1 h
  rw [List.take_succ_eq_append_getElem hm, e, trimR_snoc]
theorem trimAt_zero {l : List UInt8} (H : TrimAt l 0) : Lib.trimRightB l 32 = l.take 0 := by
  unfold TrimAt at H
  rw [H]; rfl
theorem trimAt_stop {l : List UInt8} {m : Nat} {c : UInt8} (H : TrimAt l (m + 1)) (h : l[m]? = some c) (hc : c ≠ 32) : Lib.trimRightB l 32 = l.take (m + 1) := by
  unfold TrimAt at H
  rw [H]
  obtain ⟨hm, e⟩ := List.getElem?_eq_some_iff.1 h
  rw [List.take_succ_eq_append_getElem hm, e, trimR_stop _ _ hc]
theorem drop_of_at {t : List UInt8} {a : Nat} {c : UInt8} (h : t[a]? = some c) : t.drop a = c :: t.drop (a + 1) := by
  obtain ⟨hm, e⟩ := List.getElem?_eq_some_iff.1 h
  rw [List.drop_eq_getElem_cons hm, e]
theorem rAt_blank {n : Nat} {t : List UInt8} {acc out : List Rw} {a : Nat} (H : RowsAt n t acc out a) (h : t[a]? = some 32) : RowsAt n t acc out (a + 1) := by
  unfold RowsAt at *
  rw [H, drop_of_at h, rowsS, if_pos rfl]
theorem rAt_dash {n : Nat} {t : List UInt8} {acc out : List Rw} {a : Nat} (H : RowsAt n t acc out a) (h : t[a]? = some 45) (hd : dashB (t.drop a) = true) : RowsAt n t acc (out ++ [⟨n, a, true, []⟩]) (a + 1) := by
  unfold RowsAt at *
  rw [H, rowsS_dash n a t (List.getElem?_eq_some_iff.1 h).1 hd]
  simp
theorem dash_end {t : List UInt8} {a : Nat} (h : t[a]? = some 45) (he : a + 1 = t.length) : dashB (t.drop a) = true := by
  rw [drop_of_at h, List.drop_eq_nil_of_le (by omega)]; rfl
theorem dash_blank {t : List UInt8} {a : Nat} (h : t[a]? = some 45) (h2 : t[a + 1]? = some 32) : dashB (t.drop a) = true := by
  rw [drop_of_at h, drop_of_at h2]; simp [dashB]
theorem dash_other {t : List UInt8} {a : Nat} {c : UInt8} (h : t[a]? = some c) (hc : c ≠ 45) : dashB (t.drop a) = false := by
  rw [drop_of_at h]; simp [dashB, List.isPrefixOf, hc, Ne.symm hc]
theorem dash_word {t : List UInt8} {a : Nat} {d : UInt8} (h : t[a]? = some 45) (h2 : t[a + 1]? = some d) (hd : d ≠ 32) : dashB (t.drop a) = false := by
  rw [drop_of_at h, drop_of_at h2]; simp [dashB, List.isPrefixOf, Ne.symm hd]
theorem rAt_text {n : Nat} {t : List UInt8} {acc out : List Rw} {a : Nat} {c : UInt8} (H : RowsAt n t acc out a) (h : t[a]? = some c) (hc : c ≠ 32) (hd : dashB (t.drop a) = false) : RowsAt n t acc (out ++ [⟨n, a, false, t.drop a⟩]) t.length := by
  obtain ⟨hm, e⟩ := List.getElem?_eq_some_iff.1 h
  unfold RowsAt at *
  rw [H, rowsS_text n a t hm (by rw [e]; exact hc) hd, rowsS_end n t.length t (Nat.le_refl _)]
  simp
theorem rAt_end {n : Nat} {t : List UInt8} {acc out : List Rw} {a : Nat} (H : RowsAt n t acc out a) (h : t.length ≤ a) : acc ++ rowsS n 0 t = out := rowsAt_end H h
theorem take_at (C : ByteArray) (en a : Nat) (h : a < en) (he : en ≤ C.size) : (C.data.toList.take en)[a]? = some (C[a]'(by omega)) := by
  rw [List.getElem?_take_of_lt h, List.getElem?_eq_getElem (by simpa using (show a < C.size by omega))]
  rfl
theorem all_at (C : ByteArray) (a : Nat) (h : a < C.size) : C.data.toList[a]? = some C[a] := by
  rw [List.getElem?_eq_getElem (by simpa using h)]
  rfl
/-- What the document's Cut answers. -/
def RefIs (w : World) (x : List Rw × Nat × Int) (e : Ending) (w' : World) : Prop :=
  ∃ v B, e = .returned (.tuple #[v, .int .i64 (x.2.1 : Int), .int .i64 x.2.2]) ∧ w.heap.size ≤ B ∧ RBuf 31 w' B v x.1 ∧ Fresh w w'
set_option maxRecDepth 100000 in
set_option maxHeartbeats 4000000 in
theorem refcut_any (s : ByteArray) (w : World) (hs : s.size ≤ 100000) : Calls Tryd.prog 7 #[.string s] w (RefIs w (cutL V s.data.toList)) := by
  obtain ⟨i0, hi, hz0, hz1, hz2⟩ := info_parts info31
  have HLI := Lib.hid (fun W => lines_any s W (by omega))
  obtain ⟨L, hL⟩ : ∃ L, L = lnsA [] s.data.toList := ⟨_, rfl⟩
  obtain ⟨R, hR⟩ : ∃ R, R = cutL V s.data.toList := ⟨_, rfl⟩
  have HRL : Hid (R = cutA V 0 L []) := by rw [Hid, hR, hL]; rfl
  have HLEN : Hid (L.length ≤ 100001) := by
    rw [Hid, hL]
    have := lnsA_len [] s.data.toList
    simp at this; omega
  have HMEM : Hid (∀ x ∈ L, x.length ≤ 100000) := by
    rw [Hid, hL]
    intro x hx
    have := lnsA_mem _ _ x hx
    simp at this; omega
  rw [← hL] at HLI
  rw [← hR]
  clear hL hR
  go_enter Tryd.func7, Tryd.ntmps7
  go_wp2_with (fail)
  refine (HLI.out _).mono ?_
  rintro e w1 ⟨⟨gL, capL, rfl, hsb⟩, hf1⟩
  have HSB := Lib.hid hsb
  have HF1 := Lib.hid hf1
  clear hsb hf1
  go_wp2
  go_loopw [5, 7] (fun a5 a7 wr => ∃ (k : Nat) (acc : List Rw) (v : Value), k ≤ L.length ∧ v = a5 ∧ a7 = .int .i64 (k : Int) ∧ Hid (RBuf 31 wr w1.heap.size v acc) ∧ Hid (R = cutA V k (L.drop k) acc) ∧ Hid (acc.length ≤ k * 1000000) ∧ Hid (Fresh w1 wr)) (fun _ a7 _ => L.length - (intOf a7).toNat)
  case atStart => exact ⟨0, [], .slice none 0 0, by omega, rfl, by simp, World.ownsRow_nil _ _ _ _, HRL.out, by simp [Hid], Fresh.refl _⟩
  case round =>
    obtain ⟨k, acc, v, hk, rfl, rfl, HB, HR, HAL, HF⟩ := hrel
    have hLL := HLEN.out
    by_cases hlt : k < L.length
    · have hcell := (HSB.out.fresh HF.out).cell k hlt
      have HD : Hid (L.drop k = L[k] :: L.drop (k + 1)) := List.drop_eq_getElem_cons hlt
      have hml := HMEM.out L[k] (List.getElem_mem hlt)
      have HML := Lib.hid hml
      have HCO := Lib.hid (fun W => content_of V (tx L[k]) W (by rw [tx_size]; omega) (fun W => utf8_any _ W (by rw [tx_size]; omega)))
      clear hml
      obtain ⟨x, hx⟩ : ∃ x, x = L[k] := ⟨_, rfl⟩
      rw [← hx] at hcell HD HCO HML
      have HTL : Hid ((tx x).data.toList = x) := tx_toList x
      clear hx
      cases hbad : badL V x with
      | true =>
        have hc := contRes_bad (V := V) (s := tx x) (by rw [tx_toList]; exact hbad)
        rw [hc] at HCO
        have HX : Hid (R = ([], k, 10)) := by rw [Hid, HR.out, HD.out]; exact cutA_bad V hbad
        clear hc hbad
        go_wp2_with (go_at_call 14; refine (HCO.out _).mono ?_; rintro e w' ⟨rfl, rfl⟩)
        go_ret3
        exact ⟨.slice none 0 0, w1.heap.size, by rw [HX.out]; rfl, HF1.out.size, by rw [HX.out]; exact World.ownsRow_nil _ _ _ _, HF1.out.trans HF.out⟩
      | false =>
        cases hrem : rem x with
        | none =>
          have hc := contRes_none (V := V) (s := tx x) (by rw [tx_toList]; exact hbad) (by rw [tx_toList]; exact hrem)
          rw [hc] at HCO
          have HX : Hid (R = ([], k, 11)) := by rw [Hid, HR.out, HD.out]; exact cutA_end V hbad hrem
          clear hc hbad hrem
          go_wp2_with (go_at_call 14; refine (HCO.out _).mono ?_; rintro e w' ⟨rfl, rfl⟩)
          go_ret3
          exact ⟨.slice none 0 0, w1.heap.size, by rw [HX.out]; rfl, HF1.out.size, by rw [HX.out]; exact World.ownsRow_nil _ _ _ _, HF1.out.trans HF.out⟩
        | some m =>
          have hc := contRes_some (V := V) (s := tx x) (by rw [tx_toList]; exact hbad) (by rw [tx_toList]; exact hrem)
          rw [hc] at HCO
          have HX : Hid (R = cutA V (k + 1) (L.drop (k + 1)) (acc ++ rowsS k 0 (Lib.trimRightB (x.take m) 32))) := by rw [Hid, HR.out, HD.out]; exact cutA_step V hbad hrem
          have hcl : ((tx x).extract 0 m).data.toList = x.take m := by rw [tx_extract, tx_toList, tx_toList]; simp
          rw [← hcl] at HX
          have hcs : ((tx x).extract 0 m).size ≤ 100000 := by
            have := congrArg List.length hcl
            simp at this
            have h2 := HML.out
            simp; omega
          clear hc hbad hrem hcl
          generalize (tx x).extract 0 m = C at *
          go_wp2_with (go_at_call 14; refine (HCO.out _).mono ?_; rintro e w' ⟨rfl, rfl⟩)
          go_loop [10] (fun a10 => ∃ m : Nat, m ≤ C.size ∧ a10 = .int .i64 (m : Int) ∧ Hid (TrimAt C.data.toList m)) (fun a10 => (intOf a10).toNat)
          case atStart => exact ⟨C.size, by omega, rfl, by have := trimAt_start C.data.toList; rw [Hid]; simpa using this⟩
          case round =>
            obtain ⟨en, hen, rfl, HTR⟩ := hrel
            have HDONE : Hid ((∃ j, en = j + 1 ∧ ∃ h : j < C.size, C[j] = 32) ∨ Lib.trimRightB C.data.toList 32 = C.data.toList.take en) := by
              rcases en with _ | j
              · exact .inr (trimAt_zero HTR.out)
              · by_cases h32 : C[j] = 32
                · exact .inl ⟨j, rfl, by omega, h32⟩
                · exact .inr (trimAt_stop HTR.out (all_at C j (by omega)) h32)
            by_cases hgo : ∃ j, en = j + 1 ∧ ∃ h : j < C.size, C[j] = 32
            · obtain ⟨j, rfl, hj, c32⟩ := hgo
              have e32 : ((C[j].toNat : Int) == 32) = true := eqB (n := 32) c32 (by omega)
              have x32 : (C[j].toNat : Int) = 32 := by simpa using e32
              have HN := Lib.hid (trimAt_step HTR.out (by rw [all_at C j hj, c32]))
              clear c32 HDONE
              go_wp2
              all_goals try (exfalso; omega)
              go_round
              case rel => exact ⟨j, by omega, by simp, HN.out⟩
              case measure => simp [intOf]
            · have HT : Hid (Lib.trimRightB C.data.toList 32 = C.data.toList.take en) := by
                rcases HDONE.out with h | h
                · exact absurd h hgo
                · exact h
              rw [HT.out] at HX
              have HTLEN : Hid ((C.data.toList.take en).length = en) := by rw [Hid]; simp; omega
              have HAT : Hid (∀ a (h : a < en), (C.data.toList.take en)[a]? = some (C[a]'(by omega))) := fun a h => take_at C en a h hen
              have HEX : Hid (∀ a, C.extract a en = tx ((C.data.toList.take en).drop a)) := fun a => by
                rw [tx_extract, List.drop_take]
              have HST : Hid (RowsAt k (C.data.toList.take en) acc acc 0) := by rw [Hid, RowsAt]; rfl
              have HEXIT : Hid (en = 0 ∨ ∃ j, en = j + 1 ∧ ∃ h : j < C.size, C[j] ≠ 32) := by
                rcases en with _ | j
                · exact .inl rfl
                · exact .inr ⟨j, rfl, by omega, fun e => hgo ⟨j, rfl, by omega, e⟩⟩
              obtain ⟨t, ht⟩ : ∃ t, t = C.data.toList.take en := ⟨_, rfl⟩
              rw [← ht] at HX HTLEN HAT HEX HST
              clear ht HT HDONE hgo
              have HX1 : Hid (RowsAt k t acc acc 0 → True) := fun _ => trivial
              have h31 : Hid (acc.length ≤ 100001000000) := by rw [Hid]; have := HAL.out; omega
              have h31' := h31.out
              rcases HEXIT.out with rfl | ⟨j, rfl, hj, c32⟩
              · have HNIL : Hid (acc ++ rowsS k 0 t = acc) := rAt_end HST.out (by rw [HTLEN.out]; exact Nat.le_refl _)
                rw [HNIL.out] at HX
                go_wp2
                go_loopw [5, 11] (fun a5 a11 wq => v = a5 ∧ a11 = .int .i64 0 ∧ wr = wq) (fun _ _ _ => 0)
                case atStart => exact ⟨rfl, rfl, rfl⟩
                case round =>
                  obtain ⟨rfl, rfl, rfl⟩ := hrel
                  go_wp2
                  go_roundw
                  case rel => exact ⟨k + 1, acc, _, by omega, rfl, by simp, HB.out, HX.out, Nat.le_trans HAL.out (Nat.mul_le_mul_right _ (Nat.le_succ k)), HF.out⟩
                  case measure => simp [intOf]; omega
              · have e32 : ((C[j].toNat : Int) == 32) = false := neB (n := 32) c32
                have x32 : (C[j].toNat : Int) ≠ 32 := by simpa using e32
                clear c32
                go_wp2
                all_goals try (exfalso; omega)
                generalize Value.int IntKind.u8 (C[j].toNat : Int) = zz
                go_loopw [5, 11] (fun a5 a11 wq => ∃ (a : Nat) (out : List Rw) (v1 : Value), a ≤ j + 1 ∧ v1 = a5 ∧ a11 = .int .i64 (a : Int) ∧ Hid (RowsAt k t acc out a) ∧ Hid (out.length ≤ acc.length + a) ∧ Hid (RBuf 31 wq w1.heap.size v1 out) ∧ Hid (Fresh w1 wq)) (fun _ a11 _ => j + 1 - (intOf a11).toNat)
                case atStart => exact ⟨0, acc, v, by omega, rfl, by simp, HST.out, Nat.le_refl _, HB.out, HF.out⟩
                case round =>
                  obtain ⟨a, out, v1, ha, rfl, rfl, HRA, HOL, HQB, HQF⟩ := hrel
                  have hol : out.length ≤ 100002000000 := by have := HOL.out; omega
                  by_cases haj : a < j + 1
                  · have hac : a < C.size := by omega
                    have q0 := HEX.out a
                    have HB0 : Hid (t[a]? = some C[a]) := HAT.out a haj
                    by_cases c32 : C[a] = 32
                    · have f32 : ((C[a].toNat : Int) == 32) = true := eqB (n := 32) c32 (by omega)
                      have HN := Lib.hid (rAt_blank HRA.out (by rw [HB0.out, c32]))
                      clear c32
                      go_wp2
                      all_goals try (exfalso; omega)
                      go_roundw
                      case rel => exact ⟨a + 1, out, _, by omega, rfl, by simp, HN.out, Nat.le_succ_of_le HOL.out, HQB.out, HQF.out⟩
                      case measure => simp [intOf]; omega
                    · have f32 : ((C[a].toNat : Int) == 32) = false := neB (n := 32) c32
                      by_cases c45 : C[a] = 45
                      · have f45 : ((C[a].toNat : Int) == 45) = true := eqB (n := 45) c45 (by omega)
                        have y45 : (C[a].toNat : Int) = 45 := by simpa using f45
                        have HB1 : Hid (t[a]? = some 45) := by rw [Hid, HB0.out, c45]
                        by_cases hend : a = j
                        · subst hend
                          have HN := Lib.hid (rAt_dash HRA.out HB1.out (dash_end HB1.out HTLEN.out.symm))
                          have HCELL := Lib.hid (rnews 31 wr ⟨k, a, true, []⟩)
                          clear c32 c45
                          go_wp2_with (at_builtin; refine Hid.out ?_)
                          all_goals try (exfalso; omega)
                          refine Lib.hid ?_
                          refine wpList_append_lies _ rfl _ _ 27 rfl w1.heap.size 31 i0 (.agg #[.int .i64 0, .int .i64 0, .bool false, .string ⟨#[]⟩]) 4 40 Tryd.underlying27 hi hz0 hz1 hz2 rfl (by decide) v1 out.length (rcells out) rfl (World.ownsRow.alloc HQB.out _) ⟨wr.heap.size, 0, none⟩ 1 1 (rcell ⟨k, a, true, []⟩) rfl rfl HCELL.out (rcell_one _) (by decide) (by unfold maxLen; omega) (by omega) (by rw [World.size_alloc]; have := HQF.out.size; omega) (wr.heap.size + 1) (by simp) ?_
                          intro g cap w2 hown hgrow hat hlt2
                          have HT2 := Lib.hid (RBuf.more hown)
                          have HF2 := Lib.hid ((HQF.out.alloc (.cells #[.int .i64 (k : Int), .int .i64 (a : Int), .bool true, .string ⟨#[]⟩] 31)).grown hgrow (fun g e => (HQB.out.lt g e).1))
                          clear hown hgrow hat hlt2
                          go_wp2
                          go_roundw
                          case rel => exact ⟨a + 1, out ++ [Rw.mk k a true []], _, by omega, rfl, by simp, HN.out, by rw [Hid, List.length_append]; have := HOL.out; simp; omega, HT2.out, HF2.out⟩
                          case measure => simp [intOf]
                        · have hne : ((a : Int) == (j : Int)) = false := by rw [beq_eq_false_iff_ne]; omega
                          have hne' : (a : Int) ≠ (j : Int) := by omega
                          have ha1 : a + 1 < C.size := by omega
                          have HB2 : Hid (t[a + 1]? = some C[a + 1]) := HAT.out (a + 1) (by omega)
                          by_cases d32 : C[a + 1] = 32
                          · have g32 : ((C[a + 1].toNat : Int) == 32) = true := eqB (n := 32) d32 (by omega)
                            have y32 : (C[a + 1].toNat : Int) = 32 := by simpa using g32
                            have HN := Lib.hid (rAt_dash HRA.out HB1.out (dash_blank HB1.out (by rw [HB2.out, d32])))
                            have HCELL := Lib.hid (rnews 31 wr ⟨k, a, true, []⟩)
                            clear c32 c45 d32
                            go_wp2_with (at_builtin; refine Hid.out ?_)
                            all_goals try (exfalso; omega)
                            refine Lib.hid ?_
                            refine wpList_append_lies _ rfl _ _ 27 rfl w1.heap.size 31 i0 (.agg #[.int .i64 0, .int .i64 0, .bool false, .string ⟨#[]⟩]) 4 40 Tryd.underlying27 hi hz0 hz1 hz2 rfl (by decide) v1 out.length (rcells out) rfl (World.ownsRow.alloc HQB.out _) ⟨wr.heap.size, 0, none⟩ 1 1 (rcell ⟨k, a, true, []⟩) rfl rfl HCELL.out (rcell_one _) (by decide) (by unfold maxLen; omega) (by omega) (by rw [World.size_alloc]; have := HQF.out.size; omega) (wr.heap.size + 1) (by simp) ?_
                            intro g cap w2 hown hgrow hat hlt2
                            have HT2 := Lib.hid (RBuf.more hown)
                            have HF2 := Lib.hid ((HQF.out.alloc (.cells #[.int .i64 (k : Int), .int .i64 (a : Int), .bool true, .string ⟨#[]⟩] 31)).grown hgrow (fun g e => (HQB.out.lt g e).1))
                            clear hown hgrow hat hlt2
                            go_wp2
                            go_roundw
                            case rel => exact ⟨a + 1, out ++ [Rw.mk k a true []], _, by omega, rfl, by simp, HN.out, by rw [Hid, List.length_append]; have := HOL.out; simp; omega, HT2.out, HF2.out⟩
                            case measure => simp [intOf]; omega
                          · have g32 : ((C[a + 1].toNat : Int) == 32) = false := neB (n := 32) d32
                            have y32 : (C[a + 1].toNat : Int) ≠ 32 := by simpa using g32
                            have hn := rAt_text HRA.out HB1.out (by decide) (dash_word HB1.out HB2.out d32)
                            rw [HTLEN.out] at hn
                            obtain ⟨tx0, htx⟩ : ∃ tx0, tx0 = t.drop a := ⟨_, rfl⟩
                            rw [← htx] at hn q0
                            have HN := Lib.hid hn
                            have HCELL := Lib.hid (rnews 31 wr ⟨k, a, false, tx0⟩)
                            clear c32 c45 d32 hn htx
                            go_wp2_with (at_builtin; refine Hid.out ?_)
                            all_goals try (exfalso; omega)
                            refine Lib.hid ?_
                            refine wpList_append_lies _ rfl _ _ 27 rfl w1.heap.size 31 i0 (.agg #[.int .i64 0, .int .i64 0, .bool false, .string ⟨#[]⟩]) 4 40 Tryd.underlying27 hi hz0 hz1 hz2 rfl (by decide) v1 out.length (rcells out) rfl (World.ownsRow.alloc HQB.out _) ⟨wr.heap.size, 0, none⟩ 1 1 (rcell ⟨k, a, false, tx0⟩) rfl rfl HCELL.out (rcell_one _) (by decide) (by unfold maxLen; omega) (by omega) (by rw [World.size_alloc]; have := HQF.out.size; omega) (wr.heap.size + 1) (by simp) ?_
                            intro g cap w2 hown hgrow hat hlt2
                            have HT2 := Lib.hid (RBuf.more hown)
                            have HF2 := Lib.hid ((HQF.out.alloc (.cells #[.int .i64 (k : Int), .int .i64 (a : Int), .bool false, .string (tx tx0)] 31)).grown hgrow (fun g e => (HQB.out.lt g e).1))
                            clear hown hgrow hat hlt2
                            go_wp2
                            go_roundw
                            case rel => exact ⟨j + 1, out ++ [Rw.mk k a false tx0], _, by omega, rfl, by simp, HN.out, by rw [Hid, List.length_append]; have := HOL.out; simp; omega, HT2.out, HF2.out⟩
                            case measure => simp [intOf]; omega
                      · have f45 : ((C[a].toNat : Int) == 45) = false := neB (n := 45) c45
                        have y45 : (C[a].toNat : Int) ≠ 45 := by simpa using f45
                        have hn := rAt_text HRA.out HB0.out c32 (dash_other HB0.out c45)
                        rw [HTLEN.out] at hn
                        obtain ⟨tx0, htx⟩ : ∃ tx0, tx0 = t.drop a := ⟨_, rfl⟩
                        rw [← htx] at hn q0
                        have HN := Lib.hid hn
                        have HCELL := Lib.hid (rnews 31 wr ⟨k, a, false, tx0⟩)
                        clear c32 c45 hn htx
                        go_wp2_with (at_builtin; refine Hid.out ?_)
                        all_goals try (exfalso; omega)
                        refine Lib.hid ?_
                        refine wpList_append_lies _ rfl _ _ 27 rfl w1.heap.size 31 i0 (.agg #[.int .i64 0, .int .i64 0, .bool false, .string ⟨#[]⟩]) 4 40 Tryd.underlying27 hi hz0 hz1 hz2 rfl (by decide) v1 out.length (rcells out) rfl (World.ownsRow.alloc HQB.out _) ⟨wr.heap.size, 0, none⟩ 1 1 (rcell ⟨k, a, false, tx0⟩) rfl rfl HCELL.out (rcell_one _) (by decide) (by unfold maxLen; omega) (by omega) (by rw [World.size_alloc]; have := HQF.out.size; omega) (wr.heap.size + 1) (by simp) ?_
                        intro g cap w2 hown hgrow hat hlt2
                        have HT2 := Lib.hid (RBuf.more hown)
                        have HF2 := Lib.hid ((HQF.out.alloc (.cells #[.int .i64 (k : Int), .int .i64 (a : Int), .bool false, .string (tx tx0)] 31)).grown hgrow (fun g e => (HQB.out.lt g e).1))
                        clear hown hgrow hat hlt2
                        go_wp2
                        go_roundw
                        case rel => exact ⟨j + 1, out ++ [Rw.mk k a false tx0], _, by omega, rfl, by simp, HN.out, by rw [Hid, List.length_append]; have := HOL.out; simp; omega, HT2.out, HF2.out⟩
                        case measure => simp [intOf]; omega
                  · have hae : ¬ (a : Int) < (j : Int) + 1 := by omega
                    have HX2 : Hid (R = cutA V (k + 1) (L.drop (k + 1)) out) := by
                      have h := rAt_end HRA.out (by rw [HTLEN.out]; omega)
                      rw [Hid, HX.out, h]
                    go_wp2
                    all_goals try (exfalso; omega)
                    go_roundw
                    case rel => exact ⟨k + 1, out, _, by omega, rfl, by simp, HQB.out, HX2.out, by have h1 := HOL.out; have h2 := HAL.out; have h3 : (k + 1) * 1000000 = k * 1000000 + 1000000 := (by rw [Nat.add_mul]); exact Nat.le_trans h1 (by rw [h3]; omega), HQF.out⟩
                    case measure => simp [intOf]; omega
    · have hx : L.drop k = [] := List.drop_eq_nil_of_le (by omega)
      have HX : Hid (R = (acc, 0, 0)) := by rw [Hid, HR.out, hx, cutA]
      have hge : ¬ (k : Int) < (L.length : Int) := by omega
      clear hx
      go_wp2
      go_ret3
      exact ⟨_, w1.heap.size, by rw [HX.out]; rfl, HF1.out.size, by rw [HX.out]; exact HB.out, HF1.out.trans HF.out⟩
end Go.Proofs.YtmenbgdkokegaaaDoor
