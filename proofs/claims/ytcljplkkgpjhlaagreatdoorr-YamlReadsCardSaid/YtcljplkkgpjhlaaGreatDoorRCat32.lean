/-
  Parts of the proof: YRBlk RefCut YRParse YDeepM Signs.
-/
import Derived.Test.YtcljplkkgpjhlaaGreatDoorRCat31
import Derived.Test.YtcljplkkgpjhlaaGreatDoorRCat24
import Derived.Test.YtcljplkkgpjhlaaGreatDoorRCat10
import Derived.Test.YtcljplkkgpjhlaaGreatDoorRCat22
import Derived.Test.YtcljplkkgpjhlaaGreatDoorRCat01
import Derived.Maps.Own
import Derived.Maps.OwnOps
import Derived.Maps.OwnSet
set_option maxRecDepth 100000
set_option maxHeartbeats 8000000
namespace Go.Proofs.YtcljplkkgpjhlaaGreatDoorR
namespace y
open Go.ChangeShapes Go.WideShapes Go.ChangeAt Go.RowKit
variable {w : World}
theorem rb_err {w w' : World} {p : Nat} {c : Int} {e : Ending} (h : e = rblk (0, false, 0, ⟨#[]⟩) p c ∧ Fresh w w') : RBIs w (.error (p, c)) e w' := h
theorem rb_flat {w w' : World} {x : v.V} {e : Ending} (hf : x.list = [] ∧ x.keys = []) (hs : x.text.size ≤ 1000000) (h : e = rblk (x.kind, x.flag, x.num, x.text) 0 0 ∧ Fresh w w') : RBIs w (.ok x) e w' :=
  ⟨⟨flatM x, h.1, flat_plain _ hf, flat_new _ _ _ hs⟩, h.2⟩
theorem sayr_step (n : Nat) (ih : SayR n) : SayR (n + 1) := fun R a c at0 e0 ins w hR hF h1 h2 hn hi => by
  by_cases he : at0 = e0
  · subst he
    rw [cutP_nil, blk_nil]
    exact (rblk_none a R.length c at0 ins w).mono fun e w' h => rb_flat (x := zV) ⟨rfl, rfl⟩ (by decide) h
  have hlt : at0 < e0 := by omega
  have hl : at0 < R.length := by omega
  obtain ⟨g, rfl, _, hrow⟩ := row_at hR at0 hl
  have hlen := hF.len
  have hfine := hF.row R[at0] (List.getElem_mem _)
  rw [cutP_cons hlt h2]
  cases hd : R[at0].dash with
  | true =>
    rw [blk_dash (r := ⟨at0, R[at0].indent, true, R[at0].text⟩) rfl]
    dsimp only
    by_cases h32 : 32 ≤ ins
    · rw [if_pos h32]
      exact (rblk_deep g R.length c at0 e0 R[at0] ins w hrow hlt h2 hd (by omega)).mono fun e w' h => rb_err h
    · rw [if_neg h32]
      have := rblk_list n ih R g c at0 e0 ins w hR hF R.length rfl hlt h2 hn (by omega) hd
      rw [cutP_cons hlt h2, hd] at this
      exact this
  | false =>
    obtain ⟨_, _, hl9, hl4⟩ := hfine
    have hne := (hl4.resolve_left (by rw [hd]; simp)).1
    have hS : ∀ W : World, Fresh w W → Calls Tryz.prog 58 #[.string (tx R[at0].text)] W fun e w' => e = .returned (.tuple #[.int .i64 (splitM R[at0].text).1, .int .i64 (splitM R[at0].text).2]) ∧ Fresh W w' := fun W _ => rsplits_any _ W hl9 hne
    have hcod := splitM_code R[at0].text
    by_cases hc : (entM R[at0].text).1 ≠ 0
    · rw [blk_code (r := ⟨at0, R[at0].indent, false, R[at0].text⟩) rfl hc]
      dsimp only
      rw [← hcod]
      exact (rblk_split g R.length c at0 e0 R[at0] ins w hrow hlt h2 hlen hd _ _ hS (by rw [hcod]; exact hc)).mono fun e w' h => rb_err h
    have hc0 : (entM R[at0].text).1 = 0 := by simpa using hc
    have hs0 : (splitM R[at0].text).2 = 0 := by rw [hcod, hc0]
    cases hm : (entM R[at0].text).2 with
    | some m =>
      have hent : entM R[at0].text = (0, some m) := by rw [← hm, ← hc0]
      obtain ⟨p, hp⟩ := krow hent
      have hp0 : 0 ≤ (splitM R[at0].text).1 := by rw [hp.sp]; exact Int.natCast_nonneg p
      rw [blk_keys (r := ⟨at0, R[at0].indent, false, R[at0].text⟩) rfl hent]
      dsimp only
      by_cases h32 : 32 ≤ ins
      · rw [if_pos h32]
        exact (rblk_keys_deep g R.length c at0 e0 R[at0] ins w hrow hlt h2 hlen hd _ _ hS hs0 hp0 (by omega)).mono fun e w' h => rb_err h
      · rw [if_neg h32]
        have := rblk_keys n ih R g c at0 e0 ins w hR hF R.length rfl hlt h2 hn (by omega) hd (by rw [← hs0]) hp0
        rw [cutP_cons hlt h2, hd] at this
        exact this
    | none =>
      have hent : entM R[at0].text = (0, none) := by rw [← hm, ← hc0]
      have hp : ¬ 0 ≤ (splitM R[at0].text).1 := by rw [krow_none hent]; decide
      have hC : ∀ W : World, Fresh w W → Calls Tryz.prog 59 #[.string (tx R[at0].text), .int .i64 (ins : Int)] W fun e w' => e = .returned (.tuple #[.agg #[.int .i64 (scM R[at0].text ins).2.kind, .bool (scM R[at0].text ins).2.flag, .int .i64 (scM R[at0].text ins).2.num, .string (scM R[at0].text ins).2.text, .slice none 0 0, .slice none 0 0], .int .i64 (scM R[at0].text ins).1]) ∧ Fresh W w' := fun W _ => rscal_any _ ins W hl9 hne
      rw [blk_alone (r := ⟨at0, R[at0].indent, false, R[at0].text⟩) rfl hent]
      dsimp only
      by_cases hs : (scM R[at0].text ins).1 ≠ 0
      · rw [if_pos hs]
        exact (rblk_scal_bad g R.length c at0 e0 R[at0] ins w hrow hlt h2 hlen hd _ _ hS hs0 hp _ _ _ _ _ hC hs).mono fun e w' h => rb_err h
      rw [if_neg hs]
      have hs' : (scM R[at0].text ins).1 = 0 := by simpa using hs
      by_cases hmore : at0 + 1 < e0
      · rw [cutP_cons hmore h2]
        dsimp only
        exact (rblk_scal_more g R.length c at0 e0 R[at0] ins w hrow h2 hlen hd _ _ hS hs0 hp _ _ _ _ _ hC hs' hmore).mono fun e w' h => rb_err (p := at0 + 1) ⟨by rw [h.1]; rfl, h.2⟩
      · obtain rfl : e0 = at0 + 1 := by omega
        rw [cutP_nil]
        exact (rblk_scal g R.length c at0 (at0 + 1) R[at0] ins w hrow h2 hlen hd _ _ hS hs0 hp _ _ _ _ _ hC hs' rfl).mono fun e w' h => rb_flat (scM_flat _ _) (Nat.le_trans (scM_size _ _ hl9) (by decide)) h
theorem sayr_all : ∀ n : Nat, SayR n
  | 0 => fun R a c at0 e0 ins w hR hF h1 h2 hn hi => by
    obtain rfl : at0 = e0 := by omega
    rw [cutP_nil, blk_nil]
    exact (rblk_none a R.length c at0 ins w).mono fun e w' h => rb_flat (x := zV) ⟨rfl, rfl⟩ (by decide) h
  | n + 1 => sayr_step n (sayr_all n)
theorem rblk_any (R : List Rw) (a : Option Addr) (c : Nat) (w : World) (hR : RowsAt0 w a c R) (hF : Fine R) :
    Calls Tryz.prog 28 #[.slice a R.length c, .int .i64 0, .int .i64 (R.length : Int), .int .i64 0] w (RBIs w (blk (cutP R 0 R.length) 0)) :=
  sayr_all _ R a c 0 R.length 0 w hR hF (Nat.zero_le _) (Nat.le_refl _) (Nat.le_refl _) (by omega)
end y
section
open Go.ChangeShapes Go.WideShapes Go.ChangeAt Go.RowKit
attribute [local go_sem ↓] Go.wp_at_zero Go.wp_at_succ
variable {w : World}
theorem trimR_snoc (x : List UInt8) : Lib.trimRightB (x ++ [32]) 32 = Lib.trimRightB x 32 := by simp [Lib.trimRightB]
theorem trimR_stop (x : List UInt8) (c : UInt8) (h : c ≠ 32) : Lib.trimRightB (x ++ [c]) 32 = x ++ [c] := by simp [Lib.trimRightB, h]
def TrimAt (l : List UInt8) (en : Nat) : Prop := Lib.trimRightB l 32 = Lib.trimRightB (l.take en) 32
theorem trimAt_start (l : List UInt8) : TrimAt l l.length := by unfold TrimAt; rw [List.take_length]
theorem trimAt_step {l : List UInt8} {m : Nat} (H : TrimAt l (m + 1)) (h : l[m]? = some 32) : TrimAt l m := by
  unfold TrimAt at *
  rw [H]
  obtain ⟨hm, e⟩ := List.getElem?_eq_some_iff.1 h
  rw [List.take_succ_eq_append_getElem hm, e, trimR_snoc]
theorem trimAt_zero {l : List UInt8} (H : TrimAt l 0) : Lib.trimRightB l 32 = l.take 0 := by
  unfold TrimAt at H
  rw [H]; rfl
theorem trimAt_stop {l : List UInt8} {m : Nat} {c : UInt8} (H : TrimAt l (m + 1)) (h : l[m]? = some c) (hc : c ≠ 32) : Lib.trimRightB l 32 = l.take (m + 1) := by
  unfold TrimAt at H
  rw [H]
  obtain ⟨hm, e⟩ := List.getElem?_eq_some_iff.1 h
  rw [List.take_succ_eq_append_getElem hm, e, trimR_stop _ _ hc]
theorem drop_of_at {t : List UInt8} {a : Nat} {c : UInt8} (h : t[a]? = some c) : t.drop a = c :: t.drop (a + 1) := by
  obtain ⟨hm, e⟩ := List.getElem?_eq_some_iff.1 h
  rw [List.drop_eq_getElem_cons hm, e]
theorem rAt_blank {n : Nat} {t : List UInt8} {acc out : List Rw} {a : Nat} (H : RowsAt n t acc out a) (h : t[a]? = some 32) : RowsAt n t acc out (a + 1) := by
  unfold RowsAt at *
  rw [H, drop_of_at h, rowsS, if_pos rfl]
theorem rAt_dash {n : Nat} {t : List UInt8} {acc out : List Rw} {a : Nat} (H : RowsAt n t acc out a) (h : t[a]? = some 45) (hd : dashB (t.drop a) = true) : RowsAt n t acc (out ++ [⟨n, a, true, []⟩]) (a + 1) := by
  unfold RowsAt at *
  rw [H, rowsS_dash n a t (List.getElem?_eq_some_iff.1 h).1 hd]
  simp
theorem dash_end {t : List UInt8} {a : Nat} (h : t[a]? = some 45) (he : a + 1 = t.length) : dashB (t.drop a) = true := by
  rw [drop_of_at h, List.drop_eq_nil_of_le (by omega)]; rfl
theorem dash_blank {t : List UInt8} {a : Nat} (h : t[a]? = some 45) (h2 : t[a + 1]? = some 32) : dashB (t.drop a) = true := by
  rw [drop_of_at h, drop_of_at h2]; simp [dashB]
theorem dash_other {t : List UInt8} {a : Nat} {c : UInt8} (h : t[a]? = some c) (hc : c ≠ 45) : dashB (t.drop a) = false := by
  rw [drop_of_at h]; simp [dashB, List.isPrefixOf, hc, Ne.symm hc]
theorem dash_word {t : List UInt8} {a : Nat} {d : UInt8} (h : t[a]? = some 45) (h2 : t[a + 1]? = some d) (hd : d ≠ 32) : dashB (t.drop a) = false := by
  rw [drop_of_at h, drop_of_at h2]; simp [dashB, List.isPrefixOf, Ne.symm hd]
theorem rAt_text {n : Nat} {t : List UInt8} {acc out : List Rw} {a : Nat} {c : UInt8} (H : RowsAt n t acc out a) (h : t[a]? = some c) (hc : c ≠ 32) (hd : dashB (t.drop a) = false) : RowsAt n t acc (out ++ [⟨n, a, false, t.drop a⟩]) t.length := by
  obtain ⟨hm, e⟩ := List.getElem?_eq_some_iff.1 h
  unfold RowsAt at *
  rw [H, rowsS_text n a t hm (by rw [e]; exact hc) hd, rowsS_end n t.length t (Nat.le_refl _)]
  simp
theorem rAt_end {n : Nat} {t : List UInt8} {acc out : List Rw} {a : Nat} (H : RowsAt n t acc out a) (h : t.length ≤ a) : acc ++ rowsS n 0 t = out := rowsAt_end H h
theorem take_at (C : ByteArray) (en a : Nat) (h : a < en) (he : en ≤ C.size) : (C.data.toList.take en)[a]? = some (C[a]'(by omega)) := by
  rw [List.getElem?_take_of_lt h, List.getElem?_eq_getElem (by simpa using (show a < C.size by omega))]
  rfl
theorem all_at (C : ByteArray) (a : Nat) (h : a < C.size) : C.data.toList[a]? = some C[a] := by
  rw [List.getElem?_eq_getElem (by simpa using h)]
  rfl
def RefIs (w : World) (x : List Rw × Nat × Int) (e : Ending) (w' : World) : Prop :=
  ∃ v B, e = .returned (.tuple #[v, .int .i64 (x.2.1 : Int), .int .i64 x.2.2]) ∧ w.heap.size ≤ B ∧ RBuf 66 w' B v x.1 ∧ Fresh w w'
theorem refcut_any (s : ByteArray) (w : World) (hs : s.size ≤ 100000) : Calls Tryz.prog 27 #[.string s] w (RefIs w (cutL V s.data.toList)) := by
  obtain ⟨i0, hi, hz0, hz1, hz2⟩ := info_parts info31
  have HLI := Lib.hid (fun W => lines_any s W (by omega))
  obtain ⟨L, hL⟩ : ∃ L, L = lnsA [] s.data.toList := ⟨_, rfl⟩
  obtain ⟨R, hR⟩ : ∃ R, R = cutL V s.data.toList := ⟨_, rfl⟩
  have HRL : Hid (R = cutA V 0 L []) := by rw [Hid, hR, hL]; rfl
  have HLEN : Hid (L.length ≤ 100001) := by
    rw [Hid, hL]
    have := lnsA_len [] s.data.toList
    simp at this; omega
  have HMEM : Hid (∀ x ∈ L, x.length ≤ 100000) := by
    rw [Hid, hL]
    intro x hx
    have := lnsA_mem _ _ x hx
    simp at this; omega
  rw [← hL] at HLI
  rw [← hR]
  clear hL hR
  go_enter Tryz.func27, Tryz.ntmps27
  go_wp2_with (fail)
  refine (HLI.out _).mono ?_
  rintro e w1 ⟨⟨gL, capL, rfl, hsb⟩, hf1⟩
  have HSB := Lib.hid hsb
  have HF1 := Lib.hid hf1
  clear hsb hf1
  go_wp2
  go_loopw [5, 7] (fun a5 a7 wr => ∃ (k : Nat) (acc : List Rw) (v : Value), k ≤ L.length ∧ v = a5 ∧ a7 = .int .i64 (k : Int) ∧ Hid (RBuf 66 wr w1.heap.size v acc) ∧ Hid (R = cutA V k (L.drop k) acc) ∧ Hid (acc.length ≤ k * 1000000) ∧ Hid (Fresh w1 wr)) (fun _ a7 _ => L.length - (intOf a7).toNat)
  case atStart => exact ⟨0, [], .slice none 0 0, by omega, rfl, by simp, World.ownsRow_nil _ _ _ _, HRL.out, by simp [Hid], Fresh.refl _⟩
  case round =>
    obtain ⟨k, acc, v, hk, rfl, rfl, HB, HR, HAL, HF⟩ := hrel
    have hLL := HLEN.out
    by_cases hlt : k < L.length
    · have hcell := (HSB.out.fresh HF.out).cell k hlt
      have HD : Hid (L.drop k = L[k] :: L.drop (k + 1)) := List.drop_eq_getElem_cons hlt
      have hml := HMEM.out L[k] (List.getElem_mem hlt)
      have HML := Lib.hid hml
      have HCO := Lib.hid (fun W => content_of V (tx L[k]) W (by rw [tx_size]; omega) (fun W => utf8_any _ W (by rw [tx_size]; omega)))
      clear hml
      obtain ⟨x, hx⟩ : ∃ x, x = L[k] := ⟨_, rfl⟩
      rw [← hx] at hcell HD HCO HML
      have HTL : Hid ((tx x).data.toList = x) := tx_toList x
      clear hx
      cases hbad : badL V x with
      | true =>
        have hc := contRes_bad (V := V) (s := tx x) (by rw [tx_toList]; exact hbad)
        rw [hc] at HCO
        have HX : Hid (R = ([], k, 10)) := by rw [Hid, HR.out, HD.out]; exact cutA_bad V hbad
        clear hc hbad
        go_wp2_with (go_at_call 57; refine (HCO.out _).mono ?_; rintro e w' ⟨rfl, rfl⟩)
        go_ret3
        exact ⟨.slice none 0 0, w1.heap.size, by rw [HX.out]; rfl, HF1.out.size, by rw [HX.out]; exact World.ownsRow_nil _ _ _ _, HF1.out.trans HF.out⟩
      | false =>
        cases hrem : rem x with
        | none =>
          have hc := contRes_none (V := V) (s := tx x) (by rw [tx_toList]; exact hbad) (by rw [tx_toList]; exact hrem)
          rw [hc] at HCO
          have HX : Hid (R = ([], k, 11)) := by rw [Hid, HR.out, HD.out]; exact cutA_end V hbad hrem
          clear hc hbad hrem
          go_wp2_with (go_at_call 57; refine (HCO.out _).mono ?_; rintro e w' ⟨rfl, rfl⟩)
          go_ret3
          exact ⟨.slice none 0 0, w1.heap.size, by rw [HX.out]; rfl, HF1.out.size, by rw [HX.out]; exact World.ownsRow_nil _ _ _ _, HF1.out.trans HF.out⟩
        | some m =>
          have hc := contRes_some (V := V) (s := tx x) (by rw [tx_toList]; exact hbad) (by rw [tx_toList]; exact hrem)
          rw [hc] at HCO
          have HX : Hid (R = cutA V (k + 1) (L.drop (k + 1)) (acc ++ rowsS k 0 (Lib.trimRightB (x.take m) 32))) := by rw [Hid, HR.out, HD.out]; exact cutA_step V hbad hrem
          have hcl : ((tx x).extract 0 m).data.toList = x.take m := by rw [tx_extract, tx_toList, tx_toList]; simp
          rw [← hcl] at HX
          have hcs : ((tx x).extract 0 m).size ≤ 100000 := by
            have := congrArg List.length hcl
            simp at this
            have h2 := HML.out
            simp; omega
          clear hc hbad hrem hcl
          generalize (tx x).extract 0 m = C at *
          go_wp2_with (go_at_call 57; refine (HCO.out _).mono ?_; rintro e w' ⟨rfl, rfl⟩)
          go_loop [10] (fun a10 => ∃ m : Nat, m ≤ C.size ∧ a10 = .int .i64 (m : Int) ∧ Hid (TrimAt C.data.toList m)) (fun a10 => (intOf a10).toNat)
          case atStart => exact ⟨C.size, by omega, rfl, by have := trimAt_start C.data.toList; rw [Hid]; simpa using this⟩
          case round =>
            obtain ⟨en, hen, rfl, HTR⟩ := hrel
            have HDONE : Hid ((∃ j, en = j + 1 ∧ ∃ h : j < C.size, C[j] = 32) ∨ Lib.trimRightB C.data.toList 32 = C.data.toList.take en) := by
              rcases en with _ | j
              · exact .inr (trimAt_zero HTR.out)
              · by_cases h32 : C[j] = 32
                · exact .inl ⟨j, rfl, by omega, h32⟩
                · exact .inr (trimAt_stop HTR.out (all_at C j (by omega)) h32)
            by_cases hgo : ∃ j, en = j + 1 ∧ ∃ h : j < C.size, C[j] = 32
            · obtain ⟨j, rfl, hj, c32⟩ := hgo
              have e32 : ((C[j].toNat : Int) == 32) = true := eqB (n := 32) c32 (by omega)
              have x32 : (C[j].toNat : Int) = 32 := by simpa using e32
              have HN := Lib.hid (trimAt_step HTR.out (by rw [all_at C j hj, c32]))
              clear c32 HDONE
              go_wp2
              all_goals try (exfalso; omega)
              go_round
              case rel => exact ⟨j, by omega, by simp, HN.out⟩
              case measure => simp [intOf]
            · have HT : Hid (Lib.trimRightB C.data.toList 32 = C.data.toList.take en) := by
                rcases HDONE.out with h | h
                · exact absurd h hgo
                · exact h
              rw [HT.out] at HX
              have HTLEN : Hid ((C.data.toList.take en).length = en) := by rw [Hid]; simp; omega
              have HAT : Hid (∀ a (h : a < en), (C.data.toList.take en)[a]? = some (C[a]'(by omega))) := fun a h => take_at C en a h hen
              have HEX : Hid (∀ a, C.extract a en = tx ((C.data.toList.take en).drop a)) := fun a => by
                rw [tx_extract, List.drop_take]
              have HST : Hid (RowsAt k (C.data.toList.take en) acc acc 0) := by rw [Hid, RowsAt]; rfl
              have HEXIT : Hid (en = 0 ∨ ∃ j, en = j + 1 ∧ ∃ h : j < C.size, C[j] ≠ 32) := by
                rcases en with _ | j
                · exact .inl rfl
                · exact .inr ⟨j, rfl, by omega, fun e => hgo ⟨j, rfl, by omega, e⟩⟩
              obtain ⟨t, ht⟩ : ∃ t, t = C.data.toList.take en := ⟨_, rfl⟩
              rw [← ht] at HX HTLEN HAT HEX HST
              clear ht HT HDONE hgo
              have HX1 : Hid (RowsAt k t acc acc 0 → True) := fun _ => trivial
              have h31 : Hid (acc.length ≤ 100001000000) := by rw [Hid]; have := HAL.out; omega
              have h31' := h31.out
              rcases HEXIT.out with rfl | ⟨j, rfl, hj, c32⟩
              · have HNIL : Hid (acc ++ rowsS k 0 t = acc) := rAt_end HST.out (by rw [HTLEN.out]; exact Nat.le_refl _)
                rw [HNIL.out] at HX
                go_wp2
                go_loopw [5, 11] (fun a5 a11 wq => v = a5 ∧ a11 = .int .i64 0 ∧ wr = wq) (fun _ _ _ => 0)
                case atStart => exact ⟨rfl, rfl, rfl⟩
                case round =>
                  obtain ⟨rfl, rfl, rfl⟩ := hrel
                  go_wp2
                  go_roundw
                  case rel => exact ⟨k + 1, acc, _, by omega, rfl, by simp, HB.out, HX.out, Nat.le_trans HAL.out (Nat.mul_le_mul_right _ (Nat.le_succ k)), HF.out⟩
                  case measure => simp [intOf]; omega
              · have e32 : ((C[j].toNat : Int) == 32) = false := neB (n := 32) c32
                have x32 : (C[j].toNat : Int) ≠ 32 := by simpa using e32
                clear c32
                go_wp2
                all_goals try (exfalso; omega)
                generalize Value.int IntKind.u8 (C[j].toNat : Int) = zz
                go_loopw [5, 11] (fun a5 a11 wq => ∃ (a : Nat) (out : List Rw) (v1 : Value), a ≤ j + 1 ∧ v1 = a5 ∧ a11 = .int .i64 (a : Int) ∧ Hid (RowsAt k t acc out a) ∧ Hid (out.length ≤ acc.length + a) ∧ Hid (RBuf 66 wq w1.heap.size v1 out) ∧ Hid (Fresh w1 wq)) (fun _ a11 _ => j + 1 - (intOf a11).toNat)
                case atStart => exact ⟨0, acc, v, by omega, rfl, by simp, HST.out, Nat.le_refl _, HB.out, HF.out⟩
                case round =>
                  obtain ⟨a, out, v1, ha, rfl, rfl, HRA, HOL, HQB, HQF⟩ := hrel
                  have hol : out.length ≤ 100002000000 := by have := HOL.out; omega
                  by_cases haj : a < j + 1
                  · have hac : a < C.size := by omega
                    have q0 := HEX.out a
                    have HB0 : Hid (t[a]? = some C[a]) := HAT.out a haj
                    by_cases c32 : C[a] = 32
                    · have f32 : ((C[a].toNat : Int) == 32) = true := eqB (n := 32) c32 (by omega)
                      have HN := Lib.hid (rAt_blank HRA.out (by rw [HB0.out, c32]))
                      clear c32
                      go_wp2
                      all_goals try (exfalso; omega)
                      go_roundw
                      case rel => exact ⟨a + 1, out, _, by omega, rfl, by simp, HN.out, Nat.le_succ_of_le HOL.out, HQB.out, HQF.out⟩
                      case measure => simp [intOf]; omega
                    · have f32 : ((C[a].toNat : Int) == 32) = false := neB (n := 32) c32
                      by_cases c45 : C[a] = 45
                      · have f45 : ((C[a].toNat : Int) == 45) = true := eqB (n := 45) c45 (by omega)
                        have y45 : (C[a].toNat : Int) = 45 := by simpa using f45
                        have HB1 : Hid (t[a]? = some 45) := by rw [Hid, HB0.out, c45]
                        by_cases hend : a = j
                        · subst hend
                          have HN := Lib.hid (rAt_dash HRA.out HB1.out (dash_end HB1.out HTLEN.out.symm))
                          have HCELL := Lib.hid (rnews 66 wr ⟨k, a, true, []⟩)
                          clear c32 c45
                          go_wp2_with (at_builtin; refine Hid.out ?_)
                          all_goals try (exfalso; omega)
                          refine Lib.hid ?_
                          refine wpList_append_lies _ rfl _ _ 62 rfl w1.heap.size 66 i0 (.agg #[.int .i64 0, .int .i64 0, .bool false, .string ⟨#[]⟩]) 4 40 Tryz.underlying62 hi hz0 hz1 hz2 rfl (by decide) v1 out.length (rcells out) rfl (World.ownsRow.alloc HQB.out _) ⟨wr.heap.size, 0, none⟩ 1 1 (rcell ⟨k, a, true, []⟩) rfl rfl HCELL.out (rcell_one _) (by decide) (by unfold maxLen; omega) (by omega) (by rw [World.size_alloc]; have := HQF.out.size; omega) (wr.heap.size + 1) (by simp) ?_
                          intro g cap w2 hown hgrow hat hlt2
                          have HT2 := Lib.hid (RBuf.more hown)
                          have HF2 := Lib.hid ((HQF.out.alloc (.cells #[.int .i64 (k : Int), .int .i64 (a : Int), .bool true, .string ⟨#[]⟩] 66)).grown hgrow (fun g e => (HQB.out.lt g e).1))
                          clear hown hgrow hat hlt2
                          go_wp2
                          go_roundw
                          case rel => exact ⟨a + 1, out ++ [Rw.mk k a true []], _, by omega, rfl, by simp, HN.out, by rw [Hid, List.length_append]; have := HOL.out; simp; omega, HT2.out, HF2.out⟩
                          case measure => simp [intOf]
                        · have hne : ((a : Int) == (j : Int)) = false := by rw [beq_eq_false_iff_ne]; omega
                          have hne' : (a : Int) ≠ (j : Int) := by omega
                          have ha1 : a + 1 < C.size := by omega
                          have HB2 : Hid (t[a + 1]? = some C[a + 1]) := HAT.out (a + 1) (by omega)
                          by_cases d32 : C[a + 1] = 32
                          · have g32 : ((C[a + 1].toNat : Int) == 32) = true := eqB (n := 32) d32 (by omega)
                            have y32 : (C[a + 1].toNat : Int) = 32 := by simpa using g32
                            have HN := Lib.hid (rAt_dash HRA.out HB1.out (dash_blank HB1.out (by rw [HB2.out, d32])))
                            have HCELL := Lib.hid (rnews 66 wr ⟨k, a, true, []⟩)
                            clear c32 c45 d32
                            go_wp2_with (at_builtin; refine Hid.out ?_)
                            all_goals try (exfalso; omega)
                            refine Lib.hid ?_
                            refine wpList_append_lies _ rfl _ _ 62 rfl w1.heap.size 66 i0 (.agg #[.int .i64 0, .int .i64 0, .bool false, .string ⟨#[]⟩]) 4 40 Tryz.underlying62 hi hz0 hz1 hz2 rfl (by decide) v1 out.length (rcells out) rfl (World.ownsRow.alloc HQB.out _) ⟨wr.heap.size, 0, none⟩ 1 1 (rcell ⟨k, a, true, []⟩) rfl rfl HCELL.out (rcell_one _) (by decide) (by unfold maxLen; omega) (by omega) (by rw [World.size_alloc]; have := HQF.out.size; omega) (wr.heap.size + 1) (by simp) ?_
                            intro g cap w2 hown hgrow hat hlt2
                            have HT2 := Lib.hid (RBuf.more hown)
                            have HF2 := Lib.hid ((HQF.out.alloc (.cells #[.int .i64 (k : Int), .int .i64 (a : Int), .bool true, .string ⟨#[]⟩] 66)).grown hgrow (fun g e => (HQB.out.lt g e).1))
                            clear hown hgrow hat hlt2
                            go_wp2
                            go_roundw
                            case rel => exact ⟨a + 1, out ++ [Rw.mk k a true []], _, by omega, rfl, by simp, HN.out, by rw [Hid, List.length_append]; have := HOL.out; simp; omega, HT2.out, HF2.out⟩
                            case measure => simp [intOf]; omega
                          · have g32 : ((C[a + 1].toNat : Int) == 32) = false := neB (n := 32) d32
                            have y32 : (C[a + 1].toNat : Int) ≠ 32 := by simpa using g32
                            have hn := rAt_text HRA.out HB1.out (by decide) (dash_word HB1.out HB2.out d32)
                            rw [HTLEN.out] at hn
                            obtain ⟨tx0, htx⟩ : ∃ tx0, tx0 = t.drop a := ⟨_, rfl⟩
                            rw [← htx] at hn q0
                            have HN := Lib.hid hn
                            have HCELL := Lib.hid (rnews 66 wr ⟨k, a, false, tx0⟩)
                            clear c32 c45 d32 hn htx
                            go_wp2_with (at_builtin; refine Hid.out ?_)
                            all_goals try (exfalso; omega)
                            refine Lib.hid ?_
                            refine wpList_append_lies _ rfl _ _ 62 rfl w1.heap.size 66 i0 (.agg #[.int .i64 0, .int .i64 0, .bool false, .string ⟨#[]⟩]) 4 40 Tryz.underlying62 hi hz0 hz1 hz2 rfl (by decide) v1 out.length (rcells out) rfl (World.ownsRow.alloc HQB.out _) ⟨wr.heap.size, 0, none⟩ 1 1 (rcell ⟨k, a, false, tx0⟩) rfl rfl HCELL.out (rcell_one _) (by decide) (by unfold maxLen; omega) (by omega) (by rw [World.size_alloc]; have := HQF.out.size; omega) (wr.heap.size + 1) (by simp) ?_
                            intro g cap w2 hown hgrow hat hlt2
                            have HT2 := Lib.hid (RBuf.more hown)
                            have HF2 := Lib.hid ((HQF.out.alloc (.cells #[.int .i64 (k : Int), .int .i64 (a : Int), .bool false, .string (tx tx0)] 66)).grown hgrow (fun g e => (HQB.out.lt g e).1))
                            clear hown hgrow hat hlt2
                            go_wp2
                            go_roundw
                            case rel => exact ⟨j + 1, out ++ [Rw.mk k a false tx0], _, by omega, rfl, by simp, HN.out, by rw [Hid, List.length_append]; have := HOL.out; simp; omega, HT2.out, HF2.out⟩
                            case measure => simp [intOf]; omega
                      · have f45 : ((C[a].toNat : Int) == 45) = false := neB (n := 45) c45
                        have y45 : (C[a].toNat : Int) ≠ 45 := by simpa using f45
                        have hn := rAt_text HRA.out HB0.out c32 (dash_other HB0.out c45)
                        rw [HTLEN.out] at hn
                        obtain ⟨tx0, htx⟩ : ∃ tx0, tx0 = t.drop a := ⟨_, rfl⟩
                        rw [← htx] at hn q0
                        have HN := Lib.hid hn
                        have HCELL := Lib.hid (rnews 66 wr ⟨k, a, false, tx0⟩)
                        clear c32 c45 hn htx
                        go_wp2_with (at_builtin; refine Hid.out ?_)
                        all_goals try (exfalso; omega)
                        refine Lib.hid ?_
                        refine wpList_append_lies _ rfl _ _ 62 rfl w1.heap.size 66 i0 (.agg #[.int .i64 0, .int .i64 0, .bool false, .string ⟨#[]⟩]) 4 40 Tryz.underlying62 hi hz0 hz1 hz2 rfl (by decide) v1 out.length (rcells out) rfl (World.ownsRow.alloc HQB.out _) ⟨wr.heap.size, 0, none⟩ 1 1 (rcell ⟨k, a, false, tx0⟩) rfl rfl HCELL.out (rcell_one _) (by decide) (by unfold maxLen; omega) (by omega) (by rw [World.size_alloc]; have := HQF.out.size; omega) (wr.heap.size + 1) (by simp) ?_
                        intro g cap w2 hown hgrow hat hlt2
                        have HT2 := Lib.hid (RBuf.more hown)
                        have HF2 := Lib.hid ((HQF.out.alloc (.cells #[.int .i64 (k : Int), .int .i64 (a : Int), .bool false, .string (tx tx0)] 66)).grown hgrow (fun g e => (HQB.out.lt g e).1))
                        clear hown hgrow hat hlt2
                        go_wp2
                        go_roundw
                        case rel => exact ⟨j + 1, out ++ [Rw.mk k a false tx0], _, by omega, rfl, by simp, HN.out, by rw [Hid, List.length_append]; have := HOL.out; simp; omega, HT2.out, HF2.out⟩
                        case measure => simp [intOf]; omega
                  · have hae : ¬ (a : Int) < (j : Int) + 1 := by omega
                    have HX2 : Hid (R = cutA V (k + 1) (L.drop (k + 1)) out) := by
                      have h := rAt_end HRA.out (by rw [HTLEN.out]; omega)
                      rw [Hid, HX.out, h]
                    go_wp2
                    all_goals try (exfalso; omega)
                    go_roundw
                    case rel => exact ⟨k + 1, out, _, by omega, rfl, by simp, HQB.out, HX2.out, by have h1 := HOL.out; have h2 := HAL.out; have h3 : (k + 1) * 1000000 = k * 1000000 + 1000000 := (by rw [Nat.add_mul]); exact Nat.le_trans h1 (by rw [h3]; omega), HQF.out⟩
                    case measure => simp [intOf]; omega
    · have hx : L.drop k = [] := List.drop_eq_nil_of_le (by omega)
      have HX : Hid (R = (acc, 0, 0)) := by rw [Hid, HR.out, hx, cutA]
      have hge : ¬ (k : Int) < (L.length : Int) := by omega
      clear hx
      go_wp2
      go_ret3
      exact ⟨_, w1.heap.size, by rw [HX.out]; rfl, HF1.out.size, by rw [HX.out]; exact HB.out, HF1.out.trans HF.out⟩
end
namespace y
open Go.ChangeShapes Go.WideShapes Go.ChangeAt Go.RowKit
attribute [local go_sem ↓] Go.wp_at_zero Go.wp_at_succ
variable {w : World}
theorem rbuf_rowsT {ty : Nat} {w : World} {B : Nat} {o : Option Addr} {c : Nat} {R : List Rw} (h : RBuf ty w B (.slice o R.length c) R) : RowsAt0 w o c R := by
  rcases h.2 with ⟨h1, h2⟩ | ⟨g, cap, cur, h1, hB, hg, hc, hm, hs, ht⟩
  · injection h1 with h3 h4 h5
    exact ⟨by omega, by omega, .inl (List.length_eq_zero_iff.1 h2)⟩
  · injection h1 with h3 h4 h5
    subst h5
    have hmx : maxLen = 9223372036854775807 := rfl
    refine ⟨hc, by omega, .inr ⟨g, h3, v.lt_of_at hg, fun i hi j u hu => ?_⟩⟩
    subst h3
    have hj : j < 4 := by
      have : (rcell R[i]).length = 4 := rfl
      have := (List.getElem?_eq_some_iff.1 hu).1
      omega
    have := h.cell i hi j hj hu
    rwa [Nat.zero_add]
def RParseIs (w : World) (x : v.V × Nat × Int) (e : Ending) (w' : World) : Prop :=
  (∃ m : v.M, e = .returned (.tuple #[m.val, .int .i64 (x.2.1 : Int), .int .i64 x.2.2]) ∧ m.plain = x.1 ∧ m.New w.heap.size w') ∧ Fresh w w'
theorem rp_zero {w W : World} {sz n : Nat} {c : Int} (hw : w.heap.size = sz) (hf : Fresh w W) (u0 u1 u2 u3 u4 u5 : Value) :
    RParseIs w (zV, n, c) (.returned (.tuple #[.agg #[.int .i64 0, .bool false, .int .i64 0, .string ⟨#[]⟩, .slice none 0 0, .slice none 0 0], .int .i64 (n : Int), .int .i64 c])) ((((((W.setCell ⟨sz, 0, none⟩ u0).setCell ⟨sz, 1, none⟩ u1).setCell ⟨sz, 2, none⟩ u2).setCell ⟨sz, 3, none⟩ u3).setCell ⟨sz, 4, none⟩ u4).setCell ⟨sz, 5, none⟩ u5) :=
  ⟨⟨flatM zV, rfl, flat_plain _ ⟨rfl, rfl⟩, flat_new _ _ _ (by decide)⟩, Wr.toFresh (p := fun k => w.heap.size ≤ k) ((Wr.of_fresh hf).set6 (.inl (Nat.le_of_eq hw)) _ _ _ _ _ _) (fun k hk h => by omega)⟩
theorem rp_zeroD {w W : World} {sz n : Nat} {c : Int} (hw : w.heap.size = sz) (hf : Fresh w W) (u0 u1 u2 u3 u4 u5 : Value) :
    RParseIs w (zV, n, c) (.returned (.tuple #[.agg #[.int .i64 0, .bool false, .int .i64 0, .string ⟨#[]⟩, .slice none 0 0, .slice none 0 0], .int .i64 (n : Int), .int .i64 c])) ((((((W.setCell ⟨sz, 0, none⟩ u0).setCell ⟨sz, 1, none⟩ u1).setCell ⟨sz, 2, none⟩ u2).setCell ⟨sz, 3, none⟩ u3).setCell ⟨sz, 4, none⟩ u4).setCell ⟨sz, 5, none⟩ u5).drew :=
  ⟨⟨flatM zV, rfl, flat_plain _ ⟨rfl, rfl⟩, flat_new _ _ _ (by decide)⟩, v.Fresh.drew (Wr.toFresh (p := fun k => w.heap.size ≤ k) ((Wr.of_fresh hf).set6 (.inl (Nat.le_of_eq hw)) _ _ _ _ _ _) (fun k hk h => by omega))⟩
theorem rparse_bad (s : ByteArray) (n : Nat) (cc : Int) (w : World) (hc : cc ≠ 0)
    (hq : ∀ W : World, Fresh w W → Calls Tryz.prog 27 #[.string s] W fun e w' => (∃ a k c, e = .returned (.tuple #[.slice a k c, .int .i64 (n : Int), .int .i64 cc])) ∧ Fresh W w') :
    Calls Tryz.prog 8 #[.string s] w (RParseIs w (zV, n, cc)) := by
  have HQ := Lib.hid hq
  have gcc : (cc != 0) = true := by simpa using hc
  have HB := Lib.hid (v.at_new w (.cells zcells 36 (0, 0)))
  have HF0 := Lib.hid ((Fresh.refl w).alloc (.cells zcells 36 (0, 0)))
  clear hq hc
  go_enter Tryz.func8, Tryz.ntmps8
  go_upto_region 1 with (fail)
  generalize w.alloc (.cells zcells 36 (0, 0)) = w0 at *
  generalize hsz : w.heap.size = sz at *
  have HSZ := Lib.hid hsz
  clear hsz
  go_wp2_with fail
  refine (HQ.out _ HF0.out).mono ?_
  rintro e w1 ⟨⟨a, k, c, rfl⟩, hf⟩
  have HF1 := Lib.hid (HF0.out.trans hf)
  have HR1 : Hid (RBox w1 sz) := v.Fresh.at hf HB.out
  clear hf
  obtain ⟨c0, c1, c2, c3, c4, c5, f, lt⟩ := HR1.out.facts
  have f0 := f 0; have f1 := f 1; have f2 := f 2; have f3 := f 3; have f4 := f 4; have f5 := f 5
  clear f
  go_wp2
  refine bodyPost_ret (v := .tuple #[.agg #[.int .i64 0, .bool false, .int .i64 0, .string ⟨#[]⟩, .slice none 0 0, .slice none 0 0], .int .i64 (n : Int), .int .i64 cc]) (by simp [results, Tryz.results8, go_sem, *]) rfl ?_
  exact rp_zero HSZ.out HF1.out _ _ _ _ _ _
theorem rparse_ind (s : ByteArray) (R : List Rw) (n : Nat) (w : World) (hl : 0 < R.length) (hn : R[0].line = n) (hi : R[0].indent ≠ 0)
    (hq : ∀ W : World, Fresh w W → Calls Tryz.prog 27 #[.string s] W fun e w' => ∃ a c, e = .returned (.tuple #[.slice a R.length c, .int .i64 0, .int .i64 0]) ∧ RowsAt0 w' a c R ∧ Fresh W w') :
    Calls Tryz.prog 8 #[.string s] w (RParseIs w (zV, n, 6)) := by
  have HQ := Lib.hid hq
  have HB := Lib.hid (v.at_new w (.cells zcells 36 (0, 0)))
  have HF0 := Lib.hid ((Fresh.refl w).alloc (.cells zcells 36 (0, 0)))
  have HLP := Lib.hid hl
  have gi : ((R[0].indent : Int) != 0) = true := by simp; omega
  have g1 : (0 : Int) < (R.length : Int) := by omega
  clear hq
  go_enter Tryz.func8, Tryz.ntmps8
  go_upto_region 1 with (fail)
  generalize w.alloc (.cells zcells 36 (0, 0)) = w0 at *
  generalize hsz : w.heap.size = sz at *
  have HSZ := Lib.hid hsz
  clear hsz
  go_wp2_with fail
  refine (HQ.out _ HF0.out).mono ?_
  rintro e w1 ⟨a, c, rfl, hr, hf⟩
  obtain ⟨g, rfl, _, d0, d1, d2, d3⟩ := row_at hr 0 HLP.out
  have HF1 := Lib.hid (HF0.out.trans hf)
  have HR1 : Hid (RBox w1 sz) := v.Fresh.at hf HB.out
  clear hf hr hi
  rw [Nat.zero_mul] at d0 d1 d2 d3
  rw [Nat.zero_add] at d1 d2 d3
  rw [hn] at d0
  clear hn
  obtain ⟨c0, c1, c2, c3, c4, c5, f, lt⟩ := HR1.out.facts
  have f0 := f 0; have f1 := f 1; have f2 := f 2; have f3 := f 3; have f4 := f 4; have f5 := f 5
  clear f
  have hne : g ≠ sz := fun e => by
    subst e
    rw [c1] at d1
    cases d1
  have hne2 : sz ≠ g := Ne.symm hne
  go_upto_region 5 with (fail)
  have HS5 : Hid (∀ u0 u1 u2 u3 u4 u5 : Value, ((((((w1.drew.setCell ⟨sz, 0, none⟩ u0).setCell ⟨sz, 1, none⟩ u1).setCell ⟨sz, 2, none⟩ u2).setCell ⟨sz, 3, none⟩ u3).setCell ⟨sz, 4, none⟩ u4).setCell ⟨sz, 5, none⟩ u5).cell? ⟨g, 0, none⟩ = some (.int .i64 (n : Int))) := fun u0 u1 u2 u3 u4 u5 =>
    ((Wr.refl (fun k => k = sz) w1.drew).set6 (g := sz) (.inl rfl) u0 u1 u2 u3 u4 u5).cell hne d0
  go_region_held (fun w' => (w'.cell? ⟨g, 0, none⟩ = some (.int .i64 (n : Int)))) (first | (go_keep; done) | exact HS5.out _ _ _ _ _ _) (fail)
  go_wp2
  refine bodyPost_ret (v := .tuple #[.agg #[.int .i64 0, .bool false, .int .i64 0, .string ⟨#[]⟩, .slice none 0 0, .slice none 0 0], .int .i64 (n : Int), .int .i64 6]) (by simp [results, Tryz.results8, go_sem, *]) rfl ?_
  exact rp_zeroD HSZ.out HF1.out _ _ _ _ _ _
theorem rparse_err (s : ByteArray) (R : List Rw) (p n : Nat) (cc : Int) (w : World) (hi : ∀ h : 0 < R.length, R[0].indent = 0) (hp : p < R.length) (hn : R[p].line = n) (hc : cc ≠ 0)
    (hq : ∀ W : World, Fresh w W → Calls Tryz.prog 27 #[.string s] W fun e w' => ∃ a c, e = .returned (.tuple #[.slice a R.length c, .int .i64 0, .int .i64 0]) ∧ RowsAt0 w' a c R ∧ Fresh W w')
    (hb : ∀ (a : Option Addr) (c : Nat) (W : World), RowsAt0 W a c R → Calls Tryz.prog 28 #[.slice a R.length c, .int .i64 0, .int .i64 (R.length : Int), .int .i64 0] W (RBIs W (.error (p, cc)))) :
    Calls Tryz.prog 8 #[.string s] w (RParseIs w (zV, n, cc)) := by
  have HQ := Lib.hid hq
  have HBK := Lib.hid hb
  have gcc : (cc != 0) = true := by simpa using hc
  have HB := Lib.hid (v.at_new w (.cells zcells 36 (0, 0)))
  have HF0 := Lib.hid ((Fresh.refl w).alloc (.cells zcells 36 (0, 0)))
  have HLP := Lib.hid hp
  have h0 : 0 < R.length := by omega
  have hi0 := hi h0
  have g1 : (0 : Int) < (R.length : Int) := by omega
  have q2 : (0 : Int) ≤ (p : Int) ∧ (p : Int) < (R.length : Int) := ⟨by omega, by omega⟩
  clear hq hb hi
  go_enter Tryz.func8, Tryz.ntmps8
  go_upto_region 1 with (fail)
  generalize w.alloc (.cells zcells 36 (0, 0)) = w0 at *
  generalize hsz : w.heap.size = sz at *
  have HSZ := Lib.hid hsz
  clear hsz
  go_wp2_with fail
  refine (HQ.out _ HF0.out).mono ?_
  rintro e w1 ⟨a, c, rfl, hr, hf⟩
  have HRW := Lib.hid hr
  obtain ⟨g, rfl, _, e0, e1, e2, e3⟩ := row_at hr 0 h0
  have HF1 := Lib.hid (HF0.out.trans hf)
  have HR1 : Hid (RBox w1 sz) := v.Fresh.at hf HB.out
  clear hf hr
  rw [Nat.zero_mul] at e0 e1 e2 e3
  rw [Nat.zero_add] at e1 e2 e3
  rw [hi0] at e1
  clear e0 e2 e3 hi0
  have HBC := Lib.hid (HBK.out _ c w1 HRW.out)
  go_wp2_with fail
  refine HBC.out.mono ?_
  rintro e w2 ⟨he, hf⟩
  dsimp only [rblk] at he
  subst he
  have HF2 := Lib.hid ((HF1.out.trans hf).alloc (.cells zcells 36 (0, 0)))
  have HR2 : Hid (RBox (w2.alloc (.cells zcells 36 (0, 0))) sz) := v.at_alloc (v.Fresh.at hf HR1.out)
  have HRW2 := Lib.hid (HRW.out.move (hf.alloc (.cells zcells 36 (0, 0))))
  clear hf e1 HBC
  go_upto_region 7 with (fail)
  generalize w2.alloc (.cells zcells 36 (0, 0)) = w3 at *
  obtain ⟨g', hg', _, d0, d1, d2, d3⟩ := row_at HRW2.out p HLP.out
  cases hg'
  obtain ⟨g'', hg'', _, _, z1, _, _⟩ := row_at HRW2.out 0 (by have := HLP.out; omega)
  cases hg''
  rw [Nat.zero_mul, Nat.zero_add] at z1
  rw [hn] at d0
  clear hn
  obtain ⟨c0, c1, c2, c3, c4, c5, f, lt⟩ := HR2.out.facts
  have f0 := f 0; have f1 := f 1; have f2 := f 2; have f3 := f 3; have f4 := f 4; have f5 := f 5
  clear f d1 d2 d3
  have hne : g ≠ sz := fun e => by
    subst e
    rw [c1] at z1
    cases z1
  have hne2 : sz ≠ g := Ne.symm hne
  clear z1
  go_upto_region 8 with (fail)
  have HS5 : Hid (∀ u0 u1 u2 u3 u4 u5 : Value, ((((((w3.drew.setCell ⟨sz, 0, none⟩ u0).setCell ⟨sz, 1, none⟩ u1).setCell ⟨sz, 2, none⟩ u2).setCell ⟨sz, 3, none⟩ u3).setCell ⟨sz, 4, none⟩ u4).setCell ⟨sz, 5, none⟩ u5).cell? ⟨g, p * 4, none⟩ = some (.int .i64 (n : Int))) := fun u0 u1 u2 u3 u4 u5 =>
    ((Wr.refl (fun k => k = sz) w3.drew).set6 (g := sz) (.inl rfl) u0 u1 u2 u3 u4 u5).cell hne d0
  go_region_held (fun w' => (w'.cell? ⟨g, p * 4, none⟩ = some (.int .i64 (n : Int)))) (first | (go_keep; done) | exact HS5.out _ _ _ _ _ _) (fail)
  go_wp2
  refine bodyPost_ret (v := .tuple #[.agg #[.int .i64 0, .bool false, .int .i64 0, .string ⟨#[]⟩, .slice none 0 0, .slice none 0 0], .int .i64 (n : Int), .int .i64 cc]) (by simp [results, Tryz.results8, go_sem, *]) rfl ?_
  exact rp_zeroD HSZ.out HF2.out _ _ _ _ _ _
theorem rparse_ok (s : ByteArray) (R : List Rw) (y : v.V) (w : World) (hi : ∀ h : 0 < R.length, R[0].indent = 0)
    (hq : ∀ W : World, Fresh w W → Calls Tryz.prog 27 #[.string s] W fun e w' => ∃ a c, e = .returned (.tuple #[.slice a R.length c, .int .i64 0, .int .i64 0]) ∧ RowsAt0 w' a c R ∧ Fresh W w')
    (hb : ∀ (a : Option Addr) (c : Nat) (W : World), RowsAt0 W a c R → Calls Tryz.prog 28 #[.slice a R.length c, .int .i64 0, .int .i64 (R.length : Int), .int .i64 0] W (RBIs W (.ok y))) :
    Calls Tryz.prog 8 #[.string s] w (RParseIs w (y, 0, 0)) := by
  have HQ := Lib.hid hq
  have HBK := Lib.hid hb
  have HI0 := Lib.hid hi
  have HB := Lib.hid (v.at_new w (.cells zcells 36 (0, 0)))
  have HF0 := Lib.hid ((Fresh.refl w).alloc (.cells zcells 36 (0, 0)))
  clear hq hb hi
  go_enter Tryz.func8, Tryz.ntmps8
  go_upto_region 1 with (fail)
  generalize w.alloc (.cells zcells 36 (0, 0)) = w0 at *
  generalize hsz : w.heap.size = sz at *
  have HSZ := Lib.hid hsz
  clear hsz
  go_wp2_with fail
  refine (HQ.out _ HF0.out).mono ?_
  rintro e w1 ⟨a, c, rfl, hr, hf⟩
  have HF1 := Lib.hid (HF0.out.trans hf)
  have HR1 : Hid (RBox w1 sz) := v.Fresh.at hf HB.out
  have HSL : Hid (sz < w1.heap.size) := v.lt_of_at HR1.out
  have HBC := Lib.hid (HBK.out a c w1 hr)
  have hsplit : R.length = 0 ∨ ∃ g, a = some ⟨g, 0, none⟩ ∧ 0 < R.length ∧ w1.cell? ⟨g, 1, none⟩ = some (.int .i64 0) := by
    by_cases h0 : 0 < R.length
    · right
      obtain ⟨g, rfl, _, e0, e1, e2, e3⟩ := row_at hr 0 h0
      rw [Nat.zero_mul, Nat.zero_add, HI0.out h0] at e1
      exact ⟨g, rfl, h0, e1⟩
    · left; omega
  clear hf hr
  have key : ∀ (cond : Bool), True := fun _ => trivial
  clear key
  go_upto_region 4 with (fail)
  go_cut [5, 24, 30] (fun a5 a24 a30 wc => a5 = .slice a R.length c ∧ a30 = .bool false ∧ w1 = wc)
  case first =>
    rcases hsplit with h0 | ⟨g, rfl, h0, e1⟩
    · have g1 : ¬ (0 : Int) < (R.length : Int) := by omega
      go_wp2
      go_meet
      case rel => exact ⟨by rw [h0], rfl, rfl⟩
    · have g1 : (0 : Int) < (R.length : Int) := by omega
      go_wp2
      go_meet
      case rel => exact ⟨rfl, rfl, rfl⟩
  case rest =>
    obtain ⟨rfl, rfl, rfl⟩ := hcut
    go_wp2_with fail
    refine HBC.out.mono ?_
    rintro e w2 ⟨⟨m, rfl, hp, hn⟩, hf⟩
    obtain ⟨mk, mf, mn, ms, mla, mlc, ml, mka, mkc, mks⟩ := m
    have HP := Lib.hid hp
    have HF2 := Lib.hid ((HF1.out.trans hf).alloc (.cells #[.int .i64 mk, .bool mf, .int .i64 mn, .string ms, .slice mla ml.length mlc, .slice mka mks.length mkc] 36 (0, 0)))
    have HR2 : Hid (RBox (w2.alloc (.cells #[.int .i64 mk, .bool mf, .int .i64 mn, .string ms, .slice mla ml.length mlc, .slice mka mks.length mkc] 36 (0, 0))) sz) := v.at_alloc (v.Fresh.at hf HR1.out)
    have HX2 := Lib.hid (v.at_new w2 (.cells #[.int .i64 mk, .bool mf, .int .i64 mn, .string ms, .slice mla ml.length mlc, .slice mka mks.length mkc] 36 (0, 0)))
    have HN2 := Lib.hid ((hn.mono (N' := sz + 1) (by have := HSL.out; omega)).move ((Fresh.refl w2).alloc (.cells #[.int .i64 mk, .bool mf, .int .i64 mn, .string ms, .slice mla ml.length mlc, .slice mka mks.length mkc] 36 (0, 0))))
    clear hp hn hf HBC
    dsimp only [v.M.val]
    go_upto_region 7 with (fail)
    generalize w2.alloc (.cells #[.int .i64 mk, .bool mf, .int .i64 mn, .string ms, .slice mla ml.length mlc, .slice mka mks.length mkc] 36 (0, 0)) = w3 at *
    generalize w2.heap.size = bx at *
    obtain ⟨x0, x1, x2, x3, x4, x5, _, _⟩ := six_facts HX2.out
    obtain ⟨c0, c1, c2, c3, c4, c5, f, lt⟩ := HR2.out.facts
    have f0 := f 0; have f1 := f 1; have f2 := f 2; have f3 := f 3; have f4 := f 4; have f5 := f 5
    clear f
    go_wp2
    refine bodyPost_ret (v := .tuple #[.agg #[.int .i64 mk, .bool mf, .int .i64 mn, .string ms, .slice mla ml.length mlc, .slice mka mks.length mkc], .int .i64 0, .int .i64 0]) (by simp [results, Tryz.results8, go_sem, *]) rfl ⟨⟨.mk mk mf mn ms mla mlc ml mka mkc mks, rfl, HP.out, ?_⟩, ?_⟩
    · rw [HSZ.out]
      exact (new_wr HN2.out ((Wr.refl (fun k => k = sz) w3).set6 (g := sz) (.inl rfl) _ _ _ _ _ _) (fun k e => by omega)).mono (by omega)
    · exact Wr.toFresh (p := fun k => w.heap.size ≤ k) ((Wr.of_fresh HF2.out).set6 (.inl (Nat.le_of_eq HSZ.out)) _ _ _ _ _ _) (fun k hk h => by omega)
theorem rparse_any (l : List UInt8) (w : World) (hl : l.length ≤ 90000) : Calls Tryz.prog 8 #[.string (tx l)] w (RParseIs w (parseM l)) := by
  obtain ⟨hfine, hln⟩ := cutL_fine Lib.validD l hl
  have hcut : ∀ W : World, Calls Tryz.prog 27 #[.string (tx l)] W (RefIs W (cutL Lib.validD l)) := fun W => by
    have := refcut_any (tx l) W (by rw [tx_size]; omega)
    rw [tx_toList] at this
    exact this
  unfold parseM
  by_cases hc : (cutL Lib.validD l).2.2 = 0
  · rw [if_neg (by simpa using hc)]
    have h0 : (cutL Lib.validD l).2.1 = 0 := cutA_line _ _ _ _ hc
    have hq : ∀ W : World, Fresh w W → Calls Tryz.prog 27 #[.string (tx l)] W fun e w' => ∃ a c, e = .returned (.tuple #[.slice a (cutL Lib.validD l).1.length c, .int .i64 0, .int .i64 0]) ∧ RowsAt0 w' a c (cutL Lib.validD l).1 ∧ Fresh W w' := fun W _ => (hcut W).mono fun e w' k => by
      obtain ⟨v, B, rfl, _, hr, hf⟩ := k
      obtain ⟨o, c, rfl⟩ := row_shape hr
      exact ⟨o, c, by rw [h0, hc]; rfl, rbuf_rowsT hr, hf⟩
    generalize (cutL Lib.validD l).1 = R at *
    have hb : ∀ (a : Option Addr) (c : Nat) (W : World), RowsAt0 W a c R → Calls Tryz.prog 28 #[.slice a R.length c, .int .i64 0, .int .i64 (R.length : Int), .int .i64 0] W (RBIs W (blk (cutP R 0 R.length) 0)) := fun a c W h => rblk_any R a c W h hfine
    unfold parseR
    by_cases hi : ∃ r T, R = r :: T ∧ r.indent ≠ 0
    · obtain ⟨r, T, rfl, hr⟩ := hi
      rw [if_pos (decide_eq_true (by omega))]
      exact rparse_ind (tx l) (r :: T) r.line w (by simp) rfl hr hq
    · rw [if_neg (by
        intro k
        cases R with
        | nil => cases k
        | cons r T => exact hi ⟨r, T, rfl, by have := of_decide_eq_true k; omega⟩)]
      have hi0 : ∀ h : 0 < R.length, R[0].indent = 0 := fun h => by
        cases R with
        | nil => simp at h
        | cons r T =>
          show r.indent = 0
          by_cases k : r.indent = 0
          · exact k
          · exact absurd ⟨r, T, rfl, k⟩ hi
      obtain ⟨f, hf⟩ : ∃ f : Nat → Nat, ∀ (k : Nat) (hk : k < R.length), f k = R[k].line := ⟨fun k => if hk : k < R.length then R[k].line else 0, fun k hk => by simp [hk]⟩
      rw [blk_pos R f 0 hf]
      cases hx : blk (cutP R 0 R.length) 0 with
      | error er =>
        obtain ⟨p, cc⟩ := er
        obtain ⟨h1, h2⟩ := blk_told hx
        rw [hx] at hb
        exact rparse_err (tx l) R p (f p) cc w hi0 h2 (hf p h2).symm h1 hq hb
      | ok y =>
        rw [hx] at hb
        exact rparse_ok (tx l) R y w hi0 hq hb
  · rw [if_pos hc]
    exact rparse_bad (tx l) (cutL Lib.validD l).2.1 (cutL Lib.validD l).2.2 w (by simpa using hc) (fun W _ => (hcut W).mono fun e w' k => by
      obtain ⟨v, B, rfl, _, hr, hf⟩ := k
      obtain ⟨o, c, rfl⟩ := row_shape hr
      exact ⟨⟨o, _, c, rfl⟩, hf⟩)
end y
namespace y
def dashL : Nat → List UInt8
  | 0 => []
  | n + 1 => dashL n ++ [45, 32]
def dRows (n a : Nat) : Nat → List Rw
  | 0 => [⟨n, a, false, [49]⟩]
  | m + 1 => ⟨n, a, true, []⟩ :: dRows n (a + 2) m
def dNest : Nat → v.V
  | 0 => vInt 1
  | m + 1 => vList [dNest m]
theorem dRows_ind (n : Nat) : ∀ (m a : Nat), ∀ r ∈ dRows n a m, a ≤ r.indent
  | 0, a, r, h => by simp [dRows] at h; subst h; exact Nat.le_refl _
  | m + 1, a, r, h => by
    rw [dRows] at h
    rcases List.mem_cons.1 h with rfl | h
    · exact Nat.le_refl _
    · exact Nat.le_trans (by omega) (dRows_ind n m (a + 2) r h)
theorem seg_whole {ind : Int} {S : List Rw} (h : ∀ r ∈ S, ind < (r.indent : Int)) : seg ind S = S ∧ off ind S = [] := by
  induction S with
  | nil => exact ⟨rfl, rfl⟩
  | cons r S ih =>
    obtain ⟨h1, h2⟩ := ih fun x hx => h x (List.mem_cons_of_mem _ hx)
    have h0 : decide (ind < (r.indent : Int)) = true := decide_eq_true (h r (List.mem_cons_self ..))
    unfold seg off at *
    rw [List.takeWhile_cons, List.dropWhile_cons, h0]
    exact ⟨by rw [if_pos rfl, h1], by rw [if_pos rfl, h2]⟩
theorem blk_dRows (n : Nat) : ∀ (m a ins : Nat), ins ≤ 32 → blk (dRows n a m) ins = if ins + m ≤ 32 then .ok (dNest m) else .error (n, 9)
  | 0, a, ins, h => by
    have he : entM [49] = (0, none) := by rfl
    have hs : scM [49] ins = (0, vInt 1) := by rfl
    rw [dRows, blk_alone rfl he, hs, if_neg (by simp), if_pos (by omega)]
    rfl
  | m + 1, a, ins, h => by
    rw [dRows, blk_dash rfl]
    by_cases h32 : 32 ≤ ins
    · rw [if_pos h32, if_neg (by omega)]
    · rw [if_neg h32, items.eq_def]
      obtain ⟨h1, h2⟩ := seg_whole (ind := (a : Int)) (S := dRows n (a + 2) m) (fun r hr => by have := dRows_ind n m (a + 2) r hr; omega)
      simp only [ne_eq, not_true_eq_false, Bool.true_eq_false, or_self, if_false, h1, h2]
      rw [blk_dRows n m (a + 2) (ins + 1) (by omega)]
      by_cases hm : ins + 1 + m ≤ 32
      · rw [if_pos hm, if_pos (by omega)]
        dsimp only
        rw [items.eq_def]
        rfl
      · rw [if_neg hm, if_neg (by omega)]
def exL : List UInt8 := [97, 58, 10, 32, 32, 45, 32, 49, 10]
def exV : v.V := vKeys [(tx [97], dNest 1)]
theorem cut_ex : cutL V exL = (⟨0, 0, false, [97, 58]⟩ :: dRows 1 2 1, 0, 0) := by kernel_rfl
theorem parse_ex : parseM exL = (exV, 0, 0) := by
  have hc : cutL Lib.validD exL = (⟨0, 0, false, [97, 58]⟩ :: dRows 1 2 1, 0, 0) := cut_ex
  have he : entM [97, 58] = (0, some ⟨[97], false, []⟩) := by rfl
  have hk : keyE ⟨[97], false, []⟩ (([] : List (ByteArray × v.V)).map (·.1)) = 0 := by decide
  obtain ⟨h1, h2⟩ := seg_whole (ind := 0) (S := dRows 1 2 1) (fun r hr => by have := dRows_ind 1 1 2 r hr; omega)
  unfold parseM
  rw [hc, if_neg (by simp)]
  dsimp only
  unfold parseR
  dsimp only
  rw [if_neg (by simp), blk_keys rfl he, if_neg (by omega), pairs.eq_def]
  dsimp only
  rw [he]
  dsimp only
  rw [hk]
  have e0 : ((0 : Nat) : Int) = 0 := rfl
  simp only [e0, h1, h2, blk_dRows 1 1 2 1 (by omega)]
  rw [if_neg (by simp), if_neg (by simp), if_neg (by simp), if_pos True.intro, if_pos (by omega)]
  dsimp only
  rw [pairs.eq_def]
  rfl
end y
section
open Go.ChangeShapes Go.WideShapes Go.ChangeAt Go.RowKit
variable {w : World}
def skey (s : ByteArray) : Lit := .string s.data.toList
theorem skey_inj {a b : ByteArray} (h : skey a = skey b) : a = b := by
  unfold skey at h
  injection h with h
  exact ByteArray.ext (Array.ext' h)
theorem skey_of (s : ByteArray) (hs : s.size ≤ 9000000) : keyOf Tryz.prog 9 (.string s) = some (skey s) := Go.WideMaps.keyOf_string_mk Tryz.underlying9 (by unfold maxLen; omega)
theorem slaw9 : Maps.Keyed Tryz.prog 9 := Maps.string_keyed Tryz.underlying9
theorem szero (w : World) : (zeroValue 87).run Tryz.prog w = .ok (.int .i64 0) w := by kernel_rfl
def kindR : Value → Option (DataW Unit × List MemPlace)
  | .int .i64 n => some (.lit (.int .i64 n), [])
  | _ => none
theorem kindR_inv {v : Value} {y : DataW Unit × List MemPlace} (h : kindR v = some y) : ∃ n, v = .int .i64 n ∧ y = (.lit (.int .i64 n), []) := by
  unfold kindR at h
  split at h
  · exact ⟨_, rfl, by cases h; rfl⟩
  · cases h
def lk : List (ByteArray × Int) → ByteArray → Option Int
  | [], _ => none
  | (k, n) :: es, s => if s = k then some n else lk es s
def SignW (w0 w : World) (es : List (ByteArray × Int)) : Prop :=
  (∃ D : DataW Unit, w.ownsMap Tryz.prog 9 kindR w0.heap.size es.length D ∧ ∀ s : ByteArray, D.atKey (skey s) (.lit (.int .i64 0)) = .lit (.int .i64 ((lk es s).getD 0)) ∧ Maps.has D (skey s) = (lk es s).isSome) ∧ Fresh w0 w
theorem sign_made (w : World) : SignW w (w.alloc (.map #[] 0)) [] := ⟨⟨_, World.ownsMap_made w _ _ _, fun _ => ⟨rfl, rfl⟩⟩, (Fresh.refl w).alloc _⟩
theorem wpList_insert_sign {w0 w : World} {ops : Array Oper} {rest : List Oper} {o : Oper} {a : Act} {Q : Exit → Act → World → Prop} (hg : o.guard = none) (m x v : Operand) (hop : o.op = Op.insert 121 m x v)
    (es : List (ByteArray × Int)) (hm : a.eval m = .map (some w0.heap.size)) (hs : Hid (SignW w0 w es)) (hl : es.length < 1000) (nm : ByteArray) (k : Int) (hx : a.eval x = .string nm) (hv : a.eval v = .int .i64 k) (hn : nm.size ≤ 9000000)
    (hK : ∀ w', Hid (SignW w0 w' ((nm, k) :: es)) → wpList Tryz.prog ops Q rest (a.put o.dst undef) w') : wpList Tryz.prog ops Q (o :: rest) a w := by
  refine wpList_plain hg fun K' hK' => ?_
  obtain ⟨⟨D, hown, hD⟩, hf⟩ := hs.out
  obtain ⟨w', hrun, r1, r2⟩ := hown.update slaw9 Tryz.underlying121 (by unfold maxLen; omega) (skey_of nm hn) (show kindR (.int .i64 k) = some (.lit (.int .i64 k), []) from rfl)
  unfold Oper.wp
  simp [execOp, hop, hm, hx, hv, hrun, Result.andThen]
  refine hK' _ _ (hK w' ⟨⟨_, r1, fun s => ?_⟩, Fresh.grown hf r2 (fun g e => by injection e with e; omega)⟩)
  have hk : WideAt.IsKeyLit (skey nm) := slaw9.key (v := .string nm) (l := skey nm) (skey_of nm hn)
  by_cases h : s = nm
  · subst h
    rw [Maps.atKey_put_same hown.isMap hk, Maps.has_put_same hown.isMap hk, lk, if_pos rfl]
    exact ⟨rfl, rfl⟩
  · rw [Maps.atKey_put_other (fun e => h (skey_inj e)), Maps.has_put_other (fun e => h (skey_inj e)), lk, if_neg h]
    exact hD s
def signL : List (ByteArray × Int) := [(⟨#[102, 97, 108, 115, 101]⟩, 9), (⟨#[116, 114, 117, 101]⟩, 8), (⟨#[110, 117, 108, 108]⟩, 7), (⟨#[44]⟩, 5), (⟨#[58]⟩, 4), (⟨#[93]⟩, 3), (⟨#[91]⟩, 2), (⟨#[125]⟩, 1), (⟨#[123]⟩, 0)]
def signK (s : ByteArray) : Option Int := lk signL s
def Known (w : World) (b : Nat) : Prop := ∃ D : DataW Unit, w.ownsMap Tryz.prog 9 kindR b 9 D ∧ ∀ s : ByteArray, D.atKey (skey s) (.lit (.int .i64 0)) = .lit (.int .i64 ((signK s).getD 0)) ∧ Maps.has D (skey s) = (signK s).isSome
theorem Known.lt {w : World} {b : Nat} (h : Known w b) : b < w.heap.size := by obtain ⟨D, h1, _⟩ := h; exact h1.lt
theorem Known.move {w w' : World} {b : Nat} (h : Known w b) (hb : w'.heap[b]? = w.heap[b]?) : Known w' b := by
  obtain ⟨D, ⟨es, clock, h1, r⟩, h2⟩ := h
  exact ⟨D, ⟨es, clock, hb.trans h1, r⟩, h2⟩
theorem Known.fresh {w w' : World} {b : Nat} (h : Known w b) (f : Fresh w w') : Known w' b := h.move (f.block b h.lt)
theorem Known.look {w : World} {b : Nat} (h : Known w b) (s : ByteArray) (hs : s.size ≤ 9000000) : (Instr.lookup 121 (.map (some b)) (.string s) true).run Tryz.prog w = .ok (.tuple #[.int .i64 ((signK s).getD 0), .bool (signK s).isSome]) w := by
  obtain ⟨D, h1, h2⟩ := h
  obtain ⟨v, ps, hr, hv⟩ := h1.look_ok slaw9 Tryz.underlying121 (szero w) (zd := .lit (.int .i64 0)) (zp := []) rfl (skey_of s hs)
  obtain ⟨n, rfl, e⟩ := kindR_inv hv
  rw [(h2 s).1] at e
  simp only [Prod.mk.injEq, DataW.lit.injEq, Lit.int.injEq] at e
  rw [e.1.2, ← (h2 s).2]
  exact hr
theorem signs_any (w : World) : Calls Tryz.prog 70 #[] w fun e w' => e = .returned (.map (some w.heap.size)) ∧ Known w' w.heap.size ∧ Fresh w w' := by
  have hmm := @run_makeMap Tryz.prog
  have HS := Lib.hid (sign_made w)
  go_enter Tryz.func70, Tryz.ntmps70
  go_wp2_with (with_reducible refine wpList_insert_sign rfl _ _ _ rfl _ rfl HS (by decide) _ _ rfl rfl (by decide) ?_; intro w1 HS)
  go_ret
  exact ⟨rfl, HS.out.1, HS.out.2⟩
end
end Go.Proofs.YtcljplkkgpjhlaaGreatDoorR
