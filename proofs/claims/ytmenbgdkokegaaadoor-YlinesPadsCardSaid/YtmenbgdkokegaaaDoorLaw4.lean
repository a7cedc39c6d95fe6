/-
  The statement YlinesPads, walked.
-/
import Derived.Test.YtmenbgdkokegaaaDoorPadM
import Derived.Test.YtmenbgdkokegaaaDoorLaw3
namespace Go.Proofs.YtmenbgdkokegaaaDoor
open Go.ChangeShapes Go.WideShapes Go.ChangeAt Go.RowKit
attribute [local go_sem ↓] Go.wp_at_zero Go.wp_at_succ
variable {w : World}

theorem tx_app (a b : List UInt8) : tx a ++ tx b = tx (a ++ b) := by
  apply ByteArray.ext
  simp [tx]
/-- Texts that came in. -/
def StrsV (w : World) (a : Option Addr) (L : List (List UInt8)) : Prop :=
  L = [] ∨ ∃ b off, a = some ⟨b, off, none⟩ ∧ b < w.heap.size ∧ ∀ i (h : i < L.length), w.cell? ⟨b, off + i, none⟩ = some (.string (tx L[i])) ∧ L[i].length ≤ maxLen
/-- Numbers of a byte that came in. -/
def BytesV (w : World) (a : Option Addr) (n : Nat) (z : Nat → Nat) : Prop :=
  n = 0 ∨ ∃ b off, a = some ⟨b, off, none⟩ ∧ b < w.heap.size ∧ ∀ i, i < n → w.cell? ⟨b, off + i, none⟩ = some (.int .u8 (z i : Int)) ∧ z i < 256
def padCells : Array Value := #[.string ⟨#[]⟩, .string ⟨#[32]⟩, .string ⟨#[32, 35, 32, 120]⟩, .string ⟨#[10]⟩, .string ⟨#[10, 32, 32, 35, 32, 34]⟩, .string ⟨#[32, 32, 32]⟩]
theorem padCells_at (j : Nat) (h : j < 6) : padCells[j]? = some (.string (tx (padB j))) := by
  match j, h with
  | 0, _ => rfl
  | 1, _ => rfl
  | 2, _ => rfl
  | 3, _ => rfl
  | 4, _ => rfl
  | 5, _ => rfl
def padF (n : Nat) (z : Nat → Nat) (i : Nat) : Nat := if i < n then z i % 6 else 0
theorem strip_get {A B : List Rw} (h : A.map strip = B.map strip) (k : Nat) (hA : k < A.length) (hB : k < B.length) : A[k].indent = B[k].indent ∧ A[k].dash = B[k].dash ∧ A[k].text = B[k].text := by
  have e : (A.map strip)[k]? = (B.map strip)[k]? := by rw [h]
  rw [List.getElem?_map, List.getElem?_map, List.getElem?_eq_getElem hA, List.getElem?_eq_getElem hB] at e
  simp [strip] at e
  exact e
theorem strip_len {A B : List Rw} (h : A.map strip = B.map strip) : A.length = B.length := by
  have := congrArg List.length h
  simpa using this
set_option maxRecDepth 100000 in
set_option maxHeartbeats 4000000 in
theorem ylinesPads_main (a1 : Option Addr) (c1 : Nat) (L : List (List UInt8)) (a2 : Option Addr) (n2 c2 : Nat) (z : Nat → Nat) (w : World) (hT : Tabs w) (hS : StrsV w a1 L) (hP : BytesV w a2 n2 z) :
    Calls Tryd.prog 4 #[.slice a1 L.length c1, .slice a2 n2 c2] w fun e w' => e = .returned (.bool true) ∧ Fresh w w' := by
  have HT := Lib.hid hT
  have HA : Hid (∀ W, Tabs W → Calls Tryd.prog 5 #[] W fun e w' => e = .returned (.bool true) ∧ Fresh W w') := fun W h1 => lawake_any W h1
  have HS := Lib.hid hS
  have HP := Lib.hid hP
  clear hT hS hP
  by_cases hbig : 30 < L.length ∨ 30 < n2
  · by_cases h1 : 30 < L.length
    · have x1 : (30 : Int) < (L.length : Int) := by omega
      clear hbig
      go_enter Tryd.func4, Tryd.ntmps4
      go_wp2_with fail
      refine (HA.out _ HT.out).mono ?_
      rintro e w1 ⟨rfl, hf1⟩
      have HF1 := Lib.hid hf1
      clear hf1
      go_wp2
      go_ret
      exact ⟨rfl, HF1.out⟩
    · have x1 : ¬ (30 : Int) < (L.length : Int) := by omega
      have x2 : (30 : Int) < (n2 : Int) := by omega
      clear hbig
      go_enter Tryd.func4, Tryd.ntmps4
      go_wp2_with fail
      refine (HA.out _ HT.out).mono ?_
      rintro e w1 ⟨rfl, hf1⟩
      have HF1 := Lib.hid hf1
      clear hf1
      go_wp2
      go_ret
      exact ⟨rfl, HF1.out⟩
  · have h1 : L.length ≤ 30 := by omega
    have h2 : n2 ≤ 30 := by omega
    have x1 : ¬ (30 : Int) < (L.length : Int) := by omega
    have x2 : ¬ (30 : Int) < (n2 : Int) := by omega
    clear hbig
    go_enter Tryd.func4, Tryd.ntmps4
    go_wp2
    go_loopw [5, 6, 28] (fun a5 a6 a28 wr => ∃ k : Nat, k ≤ L.length ∧ a5 = .string (tx (flA (L.take k))) ∧ a6 = .string (tx (flB (padF n2 z) 0 (L.take k))) ∧ a28 = .int .i64 (k : Int) ∧ Hid (∀ l ∈ L.take k, okL l) ∧ Hid ((flA (L.take k)).length ≤ k * 101 ∧ (flB (padF n2 z) 0 (L.take k)).length ≤ k * 107) ∧ Hid (Fresh w wr)) (fun _ _ a28 _ => L.length - (intOf a28).toNat)
    case atStart => exact ⟨0, Nat.zero_le _, rfl, rfl, by simp, by simp [Hid], by simp [Hid, flA, flB], Fresh.refl _⟩
    case round =>
      obtain ⟨k, hk, rfl, rfl, rfl, HOK, HLEN, HF⟩ := hrel
      by_cases hlt : k < L.length
      · have hne : L ≠ [] := fun e => by rw [e] at hlt; simp at hlt
        obtain ⟨b1, o1, rfl, hb1, hc1⟩ : ∃ b off, a1 = some ⟨b, off, none⟩ ∧ b < w.heap.size ∧ ∀ i (h : i < L.length), w.cell? ⟨b, off + i, none⟩ = some (.string (tx L[i])) ∧ L[i].length ≤ maxLen := by
          rcases HS.out with h | h
          · exact absurd h hne
          · exact h
        have cS := (HF.out.cell (p := ⟨b1, o1 + k, none⟩) hb1).trans (hc1 k hlt).1
        have hml := (hc1 k hlt).2
        have HTK : Hid (L.take (k + 1) = L.take k ++ [L[k]]) := by
          rw [Hid, List.take_succ_eq_append_getElem hlt]
        have hSz : (tx L[k]).size ≤ maxLen := by rw [tx_size]; exact hml
        have HSL : Hid ((tx L[k]).data.toList = L[k]) := tx_toList _
        clear hc1 hml hne
        obtain ⟨s, hs⟩ : ∃ s, s = L[k] := ⟨_, rfl⟩
        rw [← hs] at cS HTK hSz HSL
        clear hs
        obtain ⟨S, hSS⟩ : ∃ S, S = tx s := ⟨_, rfl⟩
        rw [← hSS] at cS hSz HSL
        have HSS := Lib.hid hSS
        clear hSS
        obtain ⟨A, hAA⟩ : ∃ A, A = tx (flA (L.take k)) := ⟨_, rfl⟩
        obtain ⟨B, hBB⟩ : ∃ B, B = tx (flB (padF n2 z) 0 (L.take k)) := ⟨_, rfl⟩
        have hAs : A.size ≤ 10000 := by rw [hAA, tx_size]; have := HLEN.out.1; omega
        have hBs : B.size ≤ 10000 := by rw [hBB, tx_size]; have := HLEN.out.2; omega
        rw [← hAA, ← hBB]
        have HAA := Lib.hid hAA
        have HBB := Lib.hid hBB
        clear hAA hBB
        unfold maxLen at hSz
        by_cases h100 : 100 < S.size
        · have x100 : (100 : Int) < (S.size : Int) := by omega
          go_wp2_with fail
          refine (HA.out _ (HT.out.move HF.out)).mono ?_
          rintro e w2 ⟨rfl, hf2⟩
          have HF2 := Lib.hid (HF.out.trans hf2)
          clear hf2
          go_wp2
          go_ret
          exact ⟨rfl, HF2.out⟩
        · have x100 : ¬ (100 : Int) < (S.size : Int) := by omega
          go_wp2
          go_loop [39] (fun a39 => ∃ m : Nat, m ≤ S.size ∧ a39 = .int .i64 (m : Int) ∧ Hid (okL (S.data.toList.take m))) (fun a39 => S.size - (intOf a39).toNat)
          case atStart => exact ⟨0, Nat.zero_le _, by simp, by simp [Hid, okL]⟩
          case round =>
            obtain ⟨m, hm, rfl, HM⟩ := hrel
            by_cases hms : m < S.size
            · have HTM : Hid (S.data.toList.take (m + 1) = S.data.toList.take m ++ [S[m]]) := take_snoc S m hms
              by_cases c10 : S[m] = 10
              · have e10 : ((S[m].toNat : Int) == 10) = true := eqB (n := 10) c10 (by omega)
                have x10 : (S[m].toNat : Int) = 10 := by simpa using e10
                clear c10
                go_wp2_with fail
                all_goals try (exfalso; omega)
                refine (HA.out _ (HT.out.move HF.out)).mono ?_
                rintro e w2 ⟨rfl, hf2⟩
                have HF2 := Lib.hid (HF.out.trans hf2)
                clear hf2
                go_wp2
                go_ret
                exact ⟨rfl, HF2.out⟩
              have e10 : ((S[m].toNat : Int) == 10) = false := neB (n := 10) c10
              have x10 : (S[m].toNat : Int) ≠ 10 := by simpa using e10
              by_cases c35 : S[m] = 35
              · have e35 : ((S[m].toNat : Int) == 35) = true := eqB (n := 35) c35 (by omega)
                have x35 : (S[m].toNat : Int) = 35 := by simpa using e35
                clear c35 c10
                go_wp2_with fail
                all_goals try (exfalso; omega)
                refine (HA.out _ (HT.out.move HF.out)).mono ?_
                rintro e w2 ⟨rfl, hf2⟩
                have HF2 := Lib.hid (HF.out.trans hf2)
                clear hf2
                go_wp2
                go_ret
                exact ⟨rfl, HF2.out⟩
              have e35 : ((S[m].toNat : Int) == 35) = false := neB (n := 35) c35
              have x35 : (S[m].toNat : Int) ≠ 35 := by simpa using e35
              by_cases c34 : S[m] = 34
              · have e34 : ((S[m].toNat : Int) == 34) = true := eqB (n := 34) c34 (by omega)
                have x34 : (S[m].toNat : Int) = 34 := by simpa using e34
                clear c34 c35 c10
                go_wp2_with fail
                all_goals try (exfalso; omega)
                refine (HA.out _ (HT.out.move HF.out)).mono ?_
                rintro e w2 ⟨rfl, hf2⟩
                have HF2 := Lib.hid (HF.out.trans hf2)
                clear hf2
                go_wp2
                go_ret
                exact ⟨rfl, HF2.out⟩
              have e34 : ((S[m].toNat : Int) == 34) = false := neB (n := 34) c34
              have x34 : (S[m].toNat : Int) ≠ 34 := by simpa using e34
              have HN : Hid (okL (S.data.toList.take (m + 1))) := by
                rw [Hid, HTM.out]
                intro c hc
                rcases List.mem_append.1 hc with h | h
                · exact HM.out c h
                · rw [List.mem_singleton.1 h]; exact ⟨c10, c35, c34⟩
              clear c34 c35 c10
              go_wp2
              all_goals try (exfalso; omega)
              go_round
              case rel => exact ⟨m + 1, by omega, by simp, HN.out⟩
              case measure => simp [intOf]; omega
            · have hge : ¬ (m : Int) < (S.size : Int) := by omega
              have HOKS : Hid (okL s) := by
                have h := HM.out
                rw [List.take_of_length_le (by simp; omega), HSL.out] at h
                exact h
              have HOK2 : Hid (∀ l ∈ L.take (k + 1), okL l) := by
                rw [Hid, HTK.out]
                intro l hl
                rcases List.mem_append.1 hl with h | h
                · exact HOK.out l h
                · rw [List.mem_singleton.1 h]; exact HOKS.out
              have HSLEN : Hid (s.length ≤ 100) := by
                have := congrArg List.length HSL.out
                simp at this
                rw [Hid]; omega
              have HA2 : Hid (tx (flA (L.take (k + 1))) = A ++ (S ++ ⟨#[10]⟩)) := by
                rw [Hid, HTK.out, flA_snoc, HAA.out, HSS.out, ← tx_app, ← tx_app]; rfl
              have hlk : (L.take k).length = k := by simp; omega
              have HB2 : Hid (tx (flB (padF n2 z) 0 (L.take (k + 1))) = B ++ ((S ++ tx (padB (padF n2 z k))) ++ ⟨#[10]⟩)) := by
                rw [Hid, HTK.out, flB_snoc, hlk, Nat.zero_add, HBB.out, HSS.out, ← tx_app, ← tx_app, ← tx_app]; rfl
              have HLEN2 : Hid ((flA (L.take (k + 1))).length ≤ (k + 1) * 101 ∧ (flB (padF n2 z) 0 (L.take (k + 1))).length ≤ (k + 1) * 107) := by
                rw [Hid, HTK.out, flA_snoc, flB_snoc]
                have h1 := HLEN.out.1
                have h2 := HLEN.out.2
                have h3 := HSLEN.out
                have h4 := padB_len (padF n2 z (0 + (L.take k).length))
                simp only [List.length_append, List.length_cons, List.length_nil]
                omega
              clear hlk HM
              by_cases hkn : k < n2
              · obtain ⟨b2, o2, rfl, hb2, hc2⟩ : ∃ b off, a2 = some ⟨b, off, none⟩ ∧ b < w.heap.size ∧ ∀ i, i < n2 → w.cell? ⟨b, off + i, none⟩ = some (.int .u8 (z i : Int)) ∧ z i < 256 := by
                  rcases HP.out with h | h
                  · omega
                  · exact h
                have cZ := (HF.out.cell (p := ⟨b2, o2 + k, none⟩) hb2).trans (hc2 k hkn).1
                have hz := (hc2 k hkn).2
                have hcell := cell_of_at (at_new wr (.cells padCells 9)) (padCells_at (z k % 6) (Nat.mod_lt _ (by decide)))
                have hpj : padF n2 z k = z k % 6 := by rw [padF, if_pos hkn]
                rw [hpj] at HB2
                have hps : (tx (padB (z k % 6))).size ≤ 6 := by rw [tx_size]; exact padB_len _
                have cZA := ((HF.out.alloc (.cells padCells 9)).cell (p := ⟨b2, o2 + k, none⟩) hb2).trans (hc2 k hkn).1
                generalize tx (padB (z k % 6)) = PS at *
                generalize z k = zk at *
                have hzm : Int.tmod (zk : Int) 6 = ((zk % 6 : Nat) : Int) := by rw [Int.tmod_eq_emod_of_nonneg (by omega)]; omega
                obtain ⟨j, hj⟩ : ∃ j, j = zk % 6 := ⟨_, rfl⟩
                have hj6 : j < 6 := by rw [hj]; exact Nat.mod_lt _ (by decide)
                rw [← hj] at hcell hzm
                have hzz : (zk : Int) < 256 := by omega
                have HF2 := Lib.hid (HF.out.alloc (.cells padCells 9))
                unfold padCells at hcell cZA HF2
                clear hc2 hpj hj hz
                go_wp2
                go_roundw
                case rel => exact ⟨k + 1, by omega, by rw [HA2.out], by rw [HB2.out], by simp, HOK2.out, HLEN2.out, HF2.out⟩
                case measure => simp [intOf]; omega
              · have x3 : ¬ (k : Int) < (n2 : Int) := by omega
                have hpj : tx (padB (padF n2 z k)) = ⟨#[]⟩ := by rw [padF, if_neg hkn]; rfl
                have hemp : S ++ (⟨#[]⟩ : ByteArray) = S := by
                  apply ByteArray.ext
                  simp
                rw [hpj, hemp] at HB2
                clear hpj hemp
                go_wp2
                go_roundw
                case rel => exact ⟨k + 1, by omega, by rw [HA2.out], by rw [HB2.out], by simp, HOK2.out, HLEN2.out, HF.out⟩
                case measure => simp [intOf]; omega
      · obtain rfl : k = L.length := by omega
        have hge : ¬ (L.length : Int) < (L.length : Int) := by omega
        have hok := HOK.out
        rw [List.take_length] at hok
        have hlen := HLEN.out
        rw [List.take_length] at hlen
        have hCA := cutM_any (flA L) wr (by omega) (HT.out.move HF.out)
        have hsame := pads_same (padF n2 z) L hok
        have HCB := Lib.hid (fun W h => cutM_any (flB (padF n2 z) 0 L) W (by omega) h)
        have hRL := cutL_len (flA L) (by omega)
        have HCA := Lib.hid hCA
        rw [List.take_length]
        obtain ⟨R1, hR1⟩ : ∃ R1, R1 = cutL V (flA L) := ⟨_, rfl⟩
        obtain ⟨R2, hR2⟩ : ∃ R2, R2 = cutL V (flB (padF n2 z) 0 L) := ⟨_, rfl⟩
        rw [← hR1] at HCA hsame hRL
        rw [← hR2] at HCB hsame
        generalize tx (flA L) = TA at *
        generalize tx (flB (padF n2 z) 0 L) = TB at *
        clear hR1 hR2 hCA hlen hok
        obtain ⟨rows, ln, code⟩ := R1
        obtain ⟨rows2, ln2, code2⟩ := R2
        dsimp only at hsame hRL
        obtain ⟨hs1, rfl⟩ := hsame
        have HSM := Lib.hid hs1
        have hsl : rows2.length = rows.length := (strip_len hs1).symm
        have HSL := Lib.hid hsl
        clear hs1
        go_wp2_with fail
        refine HCA.out.mono ?_
        rintro e w1 ⟨v, rfl, hb, hf1⟩
        obtain ⟨oa, ca, rfl⟩ := row_shape hb
        have HF1 := Lib.hid (HF.out.trans hf1)
        have HB := Lib.hid hb
        clear hf1 hb
        go_wp2_with fail
        refine (HCB.out _ (HT.out.move HF1.out)).mono ?_
        rintro e w2 ⟨v, rfl, hb, hf2⟩
        obtain ⟨ob, cb, rfl⟩ := row_shape hb
        have HF2 := Lib.hid (HF1.out.trans hf2)
        have HB1 := Lib.hid (HB.out.fresh hf2)
        have HB2 := Lib.hid hb
        clear hf2 hb HB
        dsimp only at HB1 HB2
        rw [hsl] at HB2 ⊢
        clear hsl
        go_wp2
        go_loopw [107] (fun a107 wr => ∃ k : Nat, k ≤ rows.length ∧ a107 = .int .i64 (k : Int) ∧ Hid (Fresh w2 wr)) (fun a107 _ => rows.length - (intOf a107).toNat)
        case atStart => exact ⟨0, Nat.zero_le _, by simp, Fresh.refl _⟩
        case round =>
          obtain ⟨k, hk, rfl, HG⟩ := hrel
          by_cases hlt2 : k < rows.length
          · obtain ⟨g, rfl⟩ := HB1.out.addr (by show 0 < rows.length; omega)
            have hlt3 : k < rows2.length := by rw [HSL.out]; exact hlt2
            obtain ⟨g2, rfl⟩ := HB2.out.addr (by show 0 < rows2.length; omega)
            obtain ⟨_, t1, t2, t3⟩ := (HB1.out.fresh HG.out).cell4 k hlt2
            obtain ⟨_, d1, d2, d3⟩ := (HB2.out.fresh HG.out).cell4 k hlt3
            obtain ⟨e1, e2, e3⟩ := strip_get HSM.out k hlt2 hlt3
            rw [← e1] at d1
            rw [← e2] at d2
            rw [← e3] at d3
            clear e1 e2 e3
            generalize rows[k].indent = r1 at *
            generalize rows[k].dash = r2 at *
            generalize tx rows[k].text = r3 at *
            go_wp2
            go_quiet (fail)
            go_wp2
            go_roundw
            case rel => exact ⟨k + 1, by omega, by simp, below_drewN HG.out nq⟩
            case measure => simp [intOf]; omega
          · have hge2 : ¬ (k : Int) < (rows.length : Int) := by omega
            go_wp2_with fail
            refine (HA.out _ (HT.out.move (HF2.out.trans HG.out))).mono ?_
            rintro e w3 ⟨rfl, hf3⟩
            have HF3 := Lib.hid ((HF2.out.trans HG.out).trans hf3)
            clear hf3
            go_wp2
            go_ret
            exact ⟨rfl, HF3.out⟩
end Go.Proofs.YtmenbgdkokegaaaDoor
