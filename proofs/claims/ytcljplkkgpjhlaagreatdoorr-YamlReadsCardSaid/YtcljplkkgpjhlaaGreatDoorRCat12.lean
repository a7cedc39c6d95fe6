/-
  Parts of the proof: YRUnq.
-/
import Derived.Test.YtcljplkkgpjhlaaGreatDoorRCat10
import Derived.Test.YtcljplkkgpjhlaaGreatDoorRCat08
import Derived.Test.YtcljplkkgpjhlaaGreatDoorRCat11
set_option maxRecDepth 100000
set_option maxHeartbeats 8000000
namespace Go.Proofs.YtcljplkkgpjhlaaGreatDoorR
namespace y
open Go.ChangeShapes Go.WideShapes Go.ChangeAt Go.RowKit
attribute [local go_sem ↓] Go.wp_at_zero Go.wp_at_succ
variable {w : World}
def outF (n : Nat) (L : Int × List UInt8 × List UInt8) : List UInt8 × Nat × Int := if L.1 ≠ 0 then ([], 0, L.1) else if 4096 < L.2.1.length then ([], 0, 2) else (L.2.1, n - L.2.2.length, 0)
theorem outF_err (n : Nat) (x : Int) (h : x ≠ 0) : outF n (x, [], []) = ([], 0, x) := by unfold outF; rw [if_pos h]
theorem loopF_char {f : Nat} {c : UInt8} {r acc : List UInt8} (hc : c ≠ 34) : loopF (f + 1) (c :: r) acc = if (chrF (c :: r)).1 ≠ 0 then ((chrF (c :: r)).1, [], []) else loopF f (chrF (c :: r)).2.2 (acc ++ (chrF (c :: r)).2.1) := by
  rw [loopF, if_neg hc]
theorem chrF_plain {c : UInt8} {r : List UInt8} (hc : c ≠ 92) : chrF (c :: r) = if c.toNat < 32 ∨ rlenF (c :: r) = 0 then (10, [], []) else (0, (c :: r).take (rlenF (c :: r)), (c :: r).drop (rlenF (c :: r))) := by
  have hb := chLen_bd (c :: r) (by simp)
  unfold chrF
  dsimp only
  rw [if_neg hc]
  unfold rlenF
  cases hv : Lib.validD ((c :: r).take (chLen (c :: r)))
  · simp
  · by_cases h : c.toNat < 32
    · simp [h]
    · have : ¬ chLen (c :: r) = 0 := by omega
      simp [h, this]
theorem chrF_esc (r : List UInt8) : chrF (92 :: r) = escF r := by unfold chrF; simp
theorem ext_take (s : ByteArray) (a n : Nat) : s.extract a (a + n) = tx ((s.data.toList.drop a).take n) := by rw [tx_extract, show a + n - a = n by omega]
theorem rlenF_le (l : List UInt8) (h : l ≠ []) : rlenF l ≤ l.length := by
  have := chLen_bd l h
  unfold rlenF; split <;> omega
theorem numF_drop : ∀ (k : Nat) (n : Int) (l : List UInt8), (numF k n l).1 = 0 → (numF k n l).2.2 = l.drop k
  | 0, n, l, _ => by simp [numF]
  | k + 1, n, [], h => by simp [numF] at h
  | k + 1, n, c :: l, h => by
    rw [numF] at h ⊢
    by_cases hc : hexv c < 0
    · rw [if_pos hc] at h; simp at h
    · rw [if_neg hc] at h ⊢
      rw [numF_drop k _ l h, List.drop_succ_cons]
theorem other_nil (v : Int) : otherF v [] = (11, 0, []) := by rfl
theorem other_back (v : Int) : otherF v [92] = (11, 0, []) := by rfl
theorem other_not (v : Int) (d : UInt8) (t : List UInt8) (h : d ≠ 92) : otherF v (d :: t) = (10, 0, []) := by
  have e1 : (d :: t).isPrefixOf [92, 117] = false := by
    rw [List.isPrefixOf]; have : (d == (92 : UInt8)) = false := beq_eq_false_iff_ne.2 h
    rw [this]; rfl
  have e2 : ([92, 117] : List UInt8).isPrefixOf (d :: t) = false := by
    rw [List.isPrefixOf]; have : ((92 : UInt8) == d) = false := beq_eq_false_iff_ne.2 (Ne.symm h)
    rw [this]; rfl
  unfold otherF
  rw [e1, e2]; simp
theorem other_not2 (v : Int) (d : UInt8) (t : List UInt8) (h : d ≠ 117) : otherF v (92 :: d :: t) = (10, 0, []) := by
  have e1 : (92 :: d :: t).isPrefixOf [92, 117] = false := by
    rw [List.isPrefixOf, List.isPrefixOf]; have : (d == (117 : UInt8)) = false := beq_eq_false_iff_ne.2 h
    rw [this]; simp
  have e2 : ([92, 117] : List UInt8).isPrefixOf (92 :: d :: t) = false := by
    rw [List.isPrefixOf, List.isPrefixOf]; have : ((117 : UInt8) == d) = false := beq_eq_false_iff_ne.2 (Ne.symm h)
    rw [this]; simp
  unfold otherF
  rw [e1, e2]; simp
theorem other_pair (v : Int) (t : List UInt8) : otherF v (92 :: 117 :: t) = if (numF 4 0 t).1 ≠ 0 then ((numF 4 0 t).1, 0, []) else if secondB (numF 4 0 t).2.1 = false then (10, 0, []) else (0, 65536 + (v - 55296) * 1024 + ((numF 4 0 t).2.1 - 56320), (numF 4 0 t).2.2) := by
  have e2 : ([92, 117] : List UInt8).isPrefixOf (92 :: 117 :: t) = true := by simp [List.isPrefixOf]
  cases t with
  | nil => rfl
  | cons d t =>
    have e1 : (92 :: 117 :: d :: t).isPrefixOf [92, 117] = false := by simp [List.isPrefixOf]
    unfold otherF
    rw [e1, e2, if_neg (by simp), if_neg (by simp)]
    rfl
theorem runq_mark (s : ByteArray) (r0 : List UInt8) (w : World) (hs : s.size ≤ 90000) (hl : s.data.toList = 34 :: r0) (Z : List UInt8 × Nat × Int) (hZ : Z = outF s.size (loopF (r0.length + 1) r0 [])) : Calls Tryz.prog 61 #[.string s] w fun e w' => e = .returned (.tuple #[.string (tx Z.1), .int .i64 (Z.2.1 : Int), .int .i64 Z.2.2]) ∧ Fresh w w' := by
  have hsz : s.data.toList.length = s.size := Array.length_toList
  have hd1 : s.data.toList.drop 1 = r0 := by rw [hl]; rfl
  have hr0 : r0.length + 1 = s.size := by rw [← hsz, hl]; rfl
  have hpos : 0 < s.size := by omega
  have h0 : s[0] = 34 := by
    have : s.data.toList[0]'(by rw [hsz]; exact hpos) = 34 := by simp [hl]
    exact this
  have HLEN : Hid (∀ (i : Nat) (W : World), i < s.size → Calls Tryz.prog 89 #[.string s, .int .i64 (i : Int)] W fun e w' => e = .returned (.int .i64 (rlenF (s.data.toList.drop i) : Nat)) ∧ W = w') := fun i W h => rlength_any s i W (by omega) h
  have HFOUR : Hid (∀ (i : Nat) (W : World), i ≤ 1000000 → Calls Tryz.prog 90 #[.string s, .int .i64 (i : Int)] W fun e w' => e = .returned (.tuple #[.int .i64 (numF 4 0 (s.data.toList.drop i)).2.1, .int .i64 (numF 4 0 (s.data.toList.drop i)).1]) ∧ W = w') := fun i W h => rfour_any s i W (by omega) h
  have HDROP : Hid (∀ (i : Nat) (h : i < s.size), s.data.toList.drop i = s[i] :: s.data.toList.drop (i + 1)) := fun i h => List.drop_eq_getElem_cons (by rw [hsz]; exact h)
  have HDL : Hid (∀ i, (s.data.toList.drop i).length = s.size - i) := fun i => by rw [List.length_drop, hsz]
  have HEX : Hid (∀ i n, s.extract i (i + n) = tx ((s.data.toList.drop i).take n)) := fun i n => ext_take s i n
  generalize hL : loopF (r0.length + 1) r0 [] = L at hZ
  have HZ0 := Lib.hid hZ
  have HL0 : Hid (L = loopF (r0.length + 1) (s.data.toList.drop 1) []) := by rw [Hid, hd1, hL]
  have HR0 := Lib.hid hr0
  clear hl hd1 hL hsz hr0 hZ
  generalize s.data.toList = l at *
  have q1 : ((s.size : Int) == 0) = false := beq_eq_false_iff_ne.2 (by omega)
  have q2 : (0 : Int) < (s.size : Int) := by omega
  have q3 : s.size ≠ 0 := by omega
  go_enter Tryz.func61, Tryz.ntmps61
  go_wp2
  go_loopw [5, 6] (fun a i wr => ∃ (k f : Nat) (acc : List UInt8), 1 ≤ k ∧ k ≤ s.size ∧ i = .int .i64 (k : Int) ∧ a = .string (tx acc) ∧ acc.length ≤ k ∧ Hid (s.size - k < f) ∧ Hid (L = loopF f (l.drop k) acc) ∧ Hid (Fresh w wr)) (fun _ i _ => s.size - (intOf i).toNat)
  case atStart => exact ⟨1, r0.length + 1, [], by omega, by omega, rfl, rfl, by simp, by have := HR0.out; rw [Hid]; omega, HL0.out, Fresh.refl _⟩
  case round =>
    obtain ⟨k, f, acc, hk1, hk2, rfl, rfl, hacc, HF, HE, HW⟩ := hrel
    have haz : (tx acc).size = acc.length := tx_size acc
    by_cases hlt : k < s.size
    · obtain ⟨f', rfl⟩ : ∃ f', f = f' + 1 := ⟨f - 1, by have := HF.out; omega⟩
      have HD := Lib.hid (HDROP.out k hlt)
      have hi : (0 : Int) ≤ (k : Int) ∧ (k : Int) < (s.size : Int) := ⟨by omega, by omega⟩
      generalize hc : s[k] = c at *
      by_cases c34 : c = 34
      · subst c34
        have HX : Hid (L = (0, acc, l.drop (k + 1))) := by rw [Hid, HE.out, HD.out, loopF, if_pos rfl]
        clear HE HD
        have hw1 : IntKind.i64.wrap ((k : Int) + 1) = (k : Int) + 1 := IntWalk.i64_in _ (by omega)
        by_cases h4 : 4096 < acc.length
        · have g4 : (4096 : Int) < ((tx acc).size : Int) := by omega
          have HZ : Hid (Z = ([], 0, 2)) := by rw [Hid, HZ0.out, HX.out]; unfold outF; rw [if_neg (by simp), if_pos h4]
          clear HX haz
          as_aux_lemma =>
            go_wp2
            go_ret3
            exact ⟨by rw [HZ.out]; rfl, HW.out⟩
        · have g4 : ¬ (4096 : Int) < ((tx acc).size : Int) := by omega
          have HZ : Hid (Z = (acc, k + 1, 0)) := by
            rw [Hid, HZ0.out, HX.out]
            unfold outF
            rw [if_neg (by simp), if_neg h4]
            dsimp only
            rw [HDL.out, show s.size - (s.size - (k + 1)) = k + 1 by omega]
          clear HX haz
          as_aux_lemma =>
            go_wp2
            go_ret3
            exact ⟨by rw [HZ.out]; rfl, HW.out⟩
      by_cases c92 : c = 92
      · subst c92
        have HXE : Hid (L = if (escF (l.drop (k + 1))).1 ≠ 0 then ((escF (l.drop (k + 1))).1, [], []) else loopF f' (escF (l.drop (k + 1))).2.2 (acc ++ (escF (l.drop (k + 1))).2.1)) := by
          rw [Hid, HE.out, HD.out, loopF_char c34, chrF_esc]
        have hw1 : IntKind.i64.wrap ((k : Int) + 1) = (k : Int) + 1 := IntWalk.i64_in _ (by omega)
        clear HE HD c34
        by_cases hend : k + 1 = s.size
        · have ge : ((k : Int) + 1 == (s.size : Int)) = true := by rw [beq_iff_eq]; omega
          have HZ : Hid (Z = ([], 0, 11)) := by
            have e0 : l.drop (k + 1) = [] := List.eq_nil_of_length_eq_zero (by rw [HDL.out]; omega)
            rw [Hid, HZ0.out, HXE.out, e0, escF]
            exact outF_err _ _ (by decide)
          clear HXE
          as_aux_lemma =>
            go_wp2
            go_ret3
            exact ⟨by rw [HZ.out]; rfl, HW.out⟩
        have ge : ((k : Int) + 1 == (s.size : Int)) = false := beq_eq_false_iff_ne.2 (by omega)
        have hlt2 : k + 1 < s.size := by omega
        have HD2 := Lib.hid (HDROP.out (k + 1) hlt2)
        have hi2 : (0 : Int) ≤ (k : Int) + 1 ∧ (k : Int) + 1 < (s.size : Int) := ⟨by omega, by omega⟩
        have e12 : ((k : Int) + 1).toNat = k + 1 := by omega
        have hw2 : IntKind.i64.wrap ((k : Int) + 2) = (k : Int) + 2 := IntWalk.i64_in _ (by omega)
        generalize hc2 : s[k + 1] = c2 at *
        by_cases d34 : c2 = 34
        · subst d34
          have HY : Hid (L = loopF f' (l.drop (k + 2)) (acc ++ [34])) := by
            rw [Hid, HXE.out, HD2.out]
            rfl
          have hcat : tx acc ++ tx [34] = tx (acc ++ [34]) := tx_app acc [34]
          have hsz2 : ¬ 9223372036854775807 < (tx acc).size + (tx [34]).size := by rw [tx_size [34], haz]; simp; omega
          have hcv : (convert 145 9 (.slice (some ⟨wr.heap.size, 0, none⟩) 1 1)).run Tryz.prog (wr.alloc (.cells #[.int .u8 34] 5)) = .ok (.string (tx [34])) (wr.alloc (.cells #[.int .u8 34] 5)) := conv_zs wr [34] (by decide) 1 rfl
          clear HXE HD2 haz
          as_aux_lemma =>
            go_wp2
            go_roundw
            case rel => exact ⟨k + 2, f', acc ++ [34], by omega, by omega, by push_cast; rfl, rfl, by simp; omega, by have := HF.out; rw [Hid]; omega, HY.out, HW.out.alloc _⟩
            case measure => simp [intOf]; omega
        by_cases d92 : c2 = 92
        · subst d92
          have HY : Hid (L = loopF f' (l.drop (k + 2)) (acc ++ [92])) := by
            rw [Hid, HXE.out, HD2.out]
            rfl
          have hcat : tx acc ++ tx [92] = tx (acc ++ [92]) := tx_app acc [92]
          have hsz2 : ¬ 9223372036854775807 < (tx acc).size + (tx [92]).size := by rw [tx_size [92], haz]; simp; omega
          have hcv : (convert 145 9 (.slice (some ⟨wr.heap.size, 0, none⟩) 1 1)).run Tryz.prog (wr.alloc (.cells #[.int .u8 92] 5)) = .ok (.string (tx [92])) (wr.alloc (.cells #[.int .u8 92] 5)) := conv_zs wr [92] (by decide) 1 rfl
          clear HXE HD2 haz
          as_aux_lemma =>
            go_wp2
            go_roundw
            case rel => exact ⟨k + 2, f', acc ++ [92], by omega, by omega, by push_cast; rfl, rfl, by simp; omega, by have := HF.out; rw [Hid]; omega, HY.out, HW.out.alloc _⟩
            case measure => simp [intOf]; omega
        by_cases d47 : c2 = 47
        · subst d47
          have HY : Hid (L = loopF f' (l.drop (k + 2)) (acc ++ [47])) := by
            rw [Hid, HXE.out, HD2.out]
            rfl
          have hcat : tx acc ++ tx [47] = tx (acc ++ [47]) := tx_app acc [47]
          have hsz2 : ¬ 9223372036854775807 < (tx acc).size + (tx [47]).size := by rw [tx_size [47], haz]; simp; omega
          have hcv : (convert 145 9 (.slice (some ⟨wr.heap.size, 0, none⟩) 1 1)).run Tryz.prog (wr.alloc (.cells #[.int .u8 47] 5)) = .ok (.string (tx [47])) (wr.alloc (.cells #[.int .u8 47] 5)) := conv_zs wr [47] (by decide) 1 rfl
          clear HXE HD2 haz
          as_aux_lemma =>
            go_wp2
            go_roundw
            case rel => exact ⟨k + 2, f', acc ++ [47], by omega, by omega, by push_cast; rfl, rfl, by simp; omega, by have := HF.out; rw [Hid]; omega, HY.out, HW.out.alloc _⟩
            case measure => simp [intOf]; omega
        by_cases d98 : c2 = 98
        · subst d98
          have HY : Hid (L = loopF f' (l.drop (k + 2)) (acc ++ [8])) := by
            rw [Hid, HXE.out, HD2.out]
            rfl
          have hcat : tx acc ++ (⟨#[8]⟩ : ByteArray) = tx (acc ++ [8]) := tx_app acc [8]
          have hsz2 : ¬ 9223372036854775807 < (tx acc).size + 1 := by omega
          clear HXE HD2 haz
          as_aux_lemma =>
            go_wp2
            go_roundw
            case rel => exact ⟨k + 2, f', acc ++ [8], by omega, by omega, by push_cast; rfl, rfl, by simp; omega, by have := HF.out; rw [Hid]; omega, HY.out, HW.out⟩
            case measure => simp [intOf]; omega
        by_cases d102 : c2 = 102
        · subst d102
          have HY : Hid (L = loopF f' (l.drop (k + 2)) (acc ++ [12])) := by
            rw [Hid, HXE.out, HD2.out]
            rfl
          have hcat : tx acc ++ (⟨#[12]⟩ : ByteArray) = tx (acc ++ [12]) := tx_app acc [12]
          have hsz2 : ¬ 9223372036854775807 < (tx acc).size + 1 := by omega
          clear HXE HD2 haz
          as_aux_lemma =>
            go_wp2
            go_roundw
            case rel => exact ⟨k + 2, f', acc ++ [12], by omega, by omega, by push_cast; rfl, rfl, by simp; omega, by have := HF.out; rw [Hid]; omega, HY.out, HW.out⟩
            case measure => simp [intOf]; omega
        by_cases d110 : c2 = 110
        · subst d110
          have HY : Hid (L = loopF f' (l.drop (k + 2)) (acc ++ [10])) := by
            rw [Hid, HXE.out, HD2.out]
            rfl
          have hcat : tx acc ++ (⟨#[10]⟩ : ByteArray) = tx (acc ++ [10]) := tx_app acc [10]
          have hsz2 : ¬ 9223372036854775807 < (tx acc).size + 1 := by omega
          clear HXE HD2 haz
          as_aux_lemma =>
            go_wp2
            go_roundw
            case rel => exact ⟨k + 2, f', acc ++ [10], by omega, by omega, by push_cast; rfl, rfl, by simp; omega, by have := HF.out; rw [Hid]; omega, HY.out, HW.out⟩
            case measure => simp [intOf]; omega
        by_cases d114 : c2 = 114
        · subst d114
          have HY : Hid (L = loopF f' (l.drop (k + 2)) (acc ++ [13])) := by
            rw [Hid, HXE.out, HD2.out]
            rfl
          have hcat : tx acc ++ (⟨#[13]⟩ : ByteArray) = tx (acc ++ [13]) := tx_app acc [13]
          have hsz2 : ¬ 9223372036854775807 < (tx acc).size + 1 := by omega
          clear HXE HD2 haz
          as_aux_lemma =>
            go_wp2
            go_roundw
            case rel => exact ⟨k + 2, f', acc ++ [13], by omega, by omega, by push_cast; rfl, rfl, by simp; omega, by have := HF.out; rw [Hid]; omega, HY.out, HW.out⟩
            case measure => simp [intOf]; omega
        by_cases d116 : c2 = 116
        · subst d116
          have HY : Hid (L = loopF f' (l.drop (k + 2)) (acc ++ [9])) := by
            rw [Hid, HXE.out, HD2.out]
            rfl
          have hcat : tx acc ++ (⟨#[9]⟩ : ByteArray) = tx (acc ++ [9]) := tx_app acc [9]
          have hsz2 : ¬ 9223372036854775807 < (tx acc).size + 1 := by omega
          clear HXE HD2 haz
          as_aux_lemma =>
            go_wp2
            go_roundw
            case rel => exact ⟨k + 2, f', acc ++ [9], by omega, by omega, by push_cast; rfl, rfl, by simp; omega, by have := HF.out; rw [Hid]; omega, HY.out, HW.out⟩
            case measure => simp [intOf]; omega
        by_cases d117 : c2 = 117
        · subst d117
          have HXN : Hid (L = if (byNumF (l.drop (k + 2))).1 ≠ 0 then ((byNumF (l.drop (k + 2))).1, [], []) else loopF f' (byNumF (l.drop (k + 2))).2.2 (acc ++ (byNumF (l.drop (k + 2))).2.1)) := by
            have e6 : escF (117 :: l.drop (k + 1 + 1)) = byNumF (l.drop (k + 2)) := rfl
            rw [Hid, HXE.out, HD2.out, e6]
          have HF4 : Hid (∀ W : World, Calls Tryz.prog 90 #[.string s, .int .i64 ((k : Int) + 2)] W fun e w' => e = .returned (.tuple #[.int .i64 (numF 4 0 (l.drop (k + 2))).2.1, .int .i64 (numF 4 0 (l.drop (k + 2))).1]) ∧ W = w') := fun W => HFOUR.out (k + 2) W (by omega)
          have hbd := numF_four (l.drop (k + 2))
          have hdr := numF_drop 4 0 (l.drop (k + 2))
          have hln := numF_len 4 0 (l.drop (k + 2))
          have HBE := Lib.hid (byNum_err (l.drop (k + 2)))
          have HB1 := Lib.hid (byNum_one (l.drop (k + 2)))
          have HBS := Lib.hid (byNum_sec (l.drop (k + 2)))
          have HBP := Lib.hid (byNum_pair (l.drop (k + 2)))
          rw [List.drop_drop] at hdr
          rw [HDL.out] at hln
          have hw4 : IntKind.i64.wrap ((k : Int) + 2 + 4) = (k : Int) + 6 := by rw [IntWalk.i64_in _ (by omega)]; omega
          clear HXE HD2
          generalize numF 4 0 (l.drop (k + 2)) = F at *
          obtain ⟨x, v, rest⟩ := F
          dsimp only at HF4 hbd hdr hln HBE HB1 HBS HBP
          by_cases hx : x = 0
          · subst hx
            obtain rfl : rest = l.drop (k + 2 + 4) := hdr rfl
            have hin4 : k + 6 ≤ s.size := by have := hln rfl; omega
            clear hdr hln HBE
            by_cases hsec : 56320 ≤ v ∧ v ≤ 57343
            · have a1 : 56320 ≤ v := hsec.1
              have a2 : v ≤ 57343 := hsec.2
              have HZ : Hid (Z = ([], 0, 10)) := by
                rw [Hid, HZ0.out, HXN.out, HBS.out rfl (decide_eq_false (by omega)) (decide_eq_true (by omega))]
                exact outF_err _ _ (by decide)
              clear HXN HB1 HBS HBP hsec
              as_aux_lemma =>
                go_wp2_with (go_at_call 90; refine (HF4.out _).mono ?_; rintro e w' ⟨rfl, rfl⟩)
                go_ret3
                exact ⟨by rw [HZ.out]; rfl, HW.out⟩
            by_cases hfst : 55296 ≤ v ∧ v ≤ 56319
            · have a1 : ¬ 56320 ≤ v := by omega
              have a2 : 55296 ≤ v := hfst.1
              have a3 : v ≤ 56319 := hfst.2
              have HXP : Hid (L = if (otherF v (l.drop (k + 6))).1 ≠ 0 then ((otherF v (l.drop (k + 6))).1, [], []) else loopF f' (otherF v (l.drop (k + 6))).2.2 (acc ++ Lib.encodeRune (otherF v (l.drop (k + 6))).2.1)) := by
                rw [Hid, HXN.out, HBP.out rfl (decide_eq_true (by omega))]
                by_cases h : (otherF v (l.drop (k + 6))).1 ≠ 0
                · rw [if_pos h, if_pos h, if_pos h]
                · rw [if_neg h, if_neg h, if_neg (by simp)]
              clear HXN HB1 HBS HBP hsec hfst
              by_cases h6 : k + 6 = s.size
              · have g6 : ((k : Int) + 6 == (s.size : Int)) = true := by rw [beq_iff_eq]; omega
                have HZ : Hid (Z = ([], 0, 11)) := by
                  have e0 : l.drop (k + 6) = [] := List.eq_nil_of_length_eq_zero (by rw [HDL.out]; omega)
                  rw [Hid, HZ0.out, HXP.out, e0, other_nil]
                  exact outF_err _ _ (by decide)
                clear HXP
                as_aux_lemma =>
                  go_wp2_with (go_at_call 90; refine (HF4.out _).mono ?_; rintro e w' ⟨rfl, rfl⟩)
                  go_ret3
                  exact ⟨by rw [HZ.out]; rfl, HW.out⟩
              have g6 : ((k : Int) + 6 == (s.size : Int)) = false := beq_eq_false_iff_ne.2 (by omega)
              have hl6 : k + 6 < s.size := by omega
              have HD6 := Lib.hid (HDROP.out (k + 6) hl6)
              have hi6 : (0 : Int) ≤ (k : Int) + 6 ∧ (k : Int) + 6 < (s.size : Int) := ⟨by omega, by omega⟩
              have e16 : ((k : Int) + 6).toNat = k + 6 := by omega
              have hw7 : IntKind.i64.wrap ((k : Int) + 6 + 1) = (k : Int) + 7 := by rw [IntWalk.i64_in _ (by omega)]; omega
              generalize hd6 : s[k + 6] = d at *
              by_cases hd : d = 92
              · subst hd
                by_cases h7 : k + 7 = s.size
                · have g7 : ((k : Int) + 7 == (s.size : Int)) = true := by rw [beq_iff_eq]; omega
                  have HZ : Hid (Z = ([], 0, 11)) := by
                    have e0 : l.drop (k + 6 + 1) = [] := List.eq_nil_of_length_eq_zero (by rw [HDL.out]; omega)
                    rw [Hid, HZ0.out, HXP.out, HD6.out, e0, other_back]
                    exact outF_err _ _ (by decide)
                  clear HXP HD6
                  as_aux_lemma =>
                    go_wp2_with (first | (go_at_call 90; refine (HF4.out _).mono ?_; rintro e w' ⟨rfl, rfl⟩) | (go_quiet (fail)))
                    go_ret3
                    exact ⟨by rw [HZ.out]; rfl, HW.out⟩
                have g7 : ((k : Int) + 7 == (s.size : Int)) = false := beq_eq_false_iff_ne.2 (by omega)
                have hl7 : k + 7 < s.size := by omega
                have HD7 := Lib.hid (HDROP.out (k + 7) hl7)
                have hi7 : (0 : Int) ≤ (k : Int) + 7 ∧ (k : Int) + 7 < (s.size : Int) := ⟨by omega, by omega⟩
                have e17 : ((k : Int) + 7).toNat = k + 7 := by omega
                generalize hd7 : s[k + 7] = d2 at *
                by_cases hd2 : d2 = 117
                · subst hd2
                  have HOP : Hid (otherF v (l.drop (k + 6)) = if (numF 4 0 (l.drop (k + 8))).1 ≠ 0 then ((numF 4 0 (l.drop (k + 8))).1, 0, []) else if secondB (numF 4 0 (l.drop (k + 8))).2.1 = false then (10, 0, []) else (0, 65536 + (v - 55296) * 1024 + ((numF 4 0 (l.drop (k + 8))).2.1 - 56320), (numF 4 0 (l.drop (k + 8))).2.2)) := by
                    have e6 : l.drop (k + 6) = 92 :: 117 :: l.drop (k + 8) := by rw [HD6.out]; exact congrArg (List.cons 92) HD7.out
                    rw [Hid, e6]
                    exact other_pair v _
                  have HF8 : Hid (∀ W : World, Calls Tryz.prog 90 #[.string s, .int .i64 ((k : Int) + 8)] W fun e w' => e = .returned (.tuple #[.int .i64 (numF 4 0 (l.drop (k + 8))).2.1, .int .i64 (numF 4 0 (l.drop (k + 8))).1]) ∧ W = w') := fun W => HFOUR.out (k + 8) W (by omega)
                  have hbd8 := numF_four (l.drop (k + 8))
                  have hdr8 := numF_drop 4 0 (l.drop (k + 8))
                  have hln8 := numF_len 4 0 (l.drop (k + 8))
                  rw [List.drop_drop] at hdr8
                  rw [HDL.out] at hln8
                  have hw8 : IntKind.i64.wrap ((k : Int) + 6 + 2) = (k : Int) + 8 := by rw [IntWalk.i64_in _ (by omega)]; omega
                  have hw12 : IntKind.i64.wrap ((k : Int) + 6 + 6) = (k : Int) + 12 := by rw [IntWalk.i64_in _ (by omega)]; omega
                  clear HD6 HD7
                  generalize numF 4 0 (l.drop (k + 8)) = G at *
                  obtain ⟨y, u, rest2⟩ := G
                  dsimp only at HF8 hbd8 hdr8 hln8 HOP
                  by_cases hy : y = 0
                  · subst hy
                    obtain rfl : rest2 = l.drop (k + 8 + 4) := hdr8 rfl
                    have hin12 : k + 12 ≤ s.size := by have := hln8 rfl; omega
                    clear hdr8 hln8
                    by_cases hu : 56320 ≤ u ∧ u ≤ 57343
                    · have b1 : ¬ u < 56320 := by omega
                      have b2 : ¬ 57343 < u := by omega
                      have HY : Hid (L = loopF f' (l.drop (k + 12)) (acc ++ Lib.encodeRune (65536 + (v - 55296) * 1024 + u - 56320))) := by
                        have e7 : otherF v (l.drop (k + 6)) = (0, 65536 + (v - 55296) * 1024 + (u - 56320), l.drop (k + 12)) := by
                          have sb : secondB u = true := decide_eq_true (by omega)
                          rw [HOP.out, if_neg (by simp), if_neg (by rw [sb]; simp)]
                        rw [Hid, HXP.out, e7, if_neg (by simp)]
                        dsimp only
                        rw [show 65536 + (v - 55296) * 1024 + (u - 56320) = 65536 + (v - 55296) * 1024 + u - 56320 by omega]
                      clear HXP HOP hu
                      have v1 : IntKind.i64.wrap (v - 55296) = v - 55296 := IntWalk.i64_in _ (by omega)
                      have v2 : IntKind.i64.wrap ((v - 55296) * 1024) = (v - 55296) * 1024 := IntWalk.i64_in _ (by omega)
                      have v3 : IntKind.i64.wrap (65536 + (v - 55296) * 1024) = 65536 + (v - 55296) * 1024 := IntWalk.i64_in _ (by omega)
                      have v4 : IntKind.i64.wrap (65536 + (v - 55296) * 1024 + u) = 65536 + (v - 55296) * 1024 + u := IntWalk.i64_in _ (by omega)
                      have v5 : IntKind.i64.wrap (65536 + (v - 55296) * 1024 + u - 56320) = 65536 + (v - 55296) * 1024 + u - 56320 := IntWalk.i64_in _ (by omega)
                      have HCH : Hid (∀ W : World, Calls Tryz.prog 91 #[.int .i64 (65536 + (v - 55296) * 1024 + u - 56320)] W fun e w' => e = .returned (.string (tx (Lib.encodeRune (65536 + (v - 55296) * 1024 + u - 56320)))) ∧ Fresh W w') := fun W => rchar_any _ (by omega) (by omega) (by omega) W
                      have hen := (rune_vals (65536 + (v - 55296) * 1024 + u - 56320)).2.2
                      generalize hcc : 65536 + (v - 55296) * 1024 + u - 56320 = vv at *
                      generalize Lib.encodeRune vv = ch at *
                      have hcat : tx acc ++ tx ch = tx (acc ++ ch) := tx_app acc ch
                      have hsz2 : ¬ 9223372036854775807 < (tx acc).size + (tx ch).size := by rw [tx_size ch, haz]; omega
                      as_aux_lemma =>
                        go_wp2_with (first | (go_at_call 90; with_reducible refine (HF4.out _).mono ?_; rintro e w' ⟨rfl, rfl⟩) | (go_at_call 90; with_reducible refine (HF8.out _).mono ?_; rintro e w' ⟨rfl, rfl⟩) | (go_at_call 91; refine (HCH.out _).mono ?_; rintro e w3 ⟨rfl, hf3⟩; have HW3 := Lib.hid (HW.out.trans hf3); clear hf3) | (go_quiet (fail)))
                        go_roundw
                        case rel => exact ⟨k + 12, f', acc ++ ch, by omega, by omega, by push_cast; rfl, rfl, by rw [List.length_append]; omega, by have := HF.out; rw [Hid]; omega, HY.out, HW3.out⟩
                        case measure => simp [intOf]; omega
                    · have HZ : Hid (Z = ([], 0, 10)) := by
                        have sb : secondB u = false := decide_eq_false (by omega)
                        have e7 : otherF v (l.drop (k + 6)) = (10, 0, []) := by rw [HOP.out, if_neg (by simp), if_pos sb]
                        rw [Hid, HZ0.out, HXP.out, e7]
                        exact outF_err _ _ (by decide)
                      clear HXP HOP
                      by_cases hu1 : u < 56320
                      · clear hu
                        as_aux_lemma =>
                          go_wp2_with (first | (go_at_call 90; with_reducible refine (HF4.out _).mono ?_; rintro e w' ⟨rfl, rfl⟩) | (go_at_call 90; with_reducible refine (HF8.out _).mono ?_; rintro e w' ⟨rfl, rfl⟩) | (go_quiet (fail)))
                          go_ret3
                          exact ⟨by rw [HZ.out]; rfl, HW.out⟩
                      · have hu2 : 57343 < u := by omega
                        have hu3 : decide (u < 56320) = false := decide_eq_false hu1
                        clear hu
                        as_aux_lemma =>
                          go_wp2_with (first | (go_at_call 90; with_reducible refine (HF4.out _).mono ?_; rintro e w' ⟨rfl, rfl⟩) | (go_at_call 90; with_reducible refine (HF8.out _).mono ?_; rintro e w' ⟨rfl, rfl⟩) | (go_quiet (fail)))
                          go_ret3
                          exact ⟨by rw [HZ.out]; rfl, HW.out⟩
                  · have HZ : Hid (Z = ([], 0, y)) := by
                      have e7 : otherF v (l.drop (k + 6)) = (y, 0, []) := by rw [HOP.out, if_pos hy]
                      rw [Hid, HZ0.out, HXP.out, e7, if_pos hy]
                      exact outF_err _ _ hy
                    have gy : (y != 0) = true := by simpa using hy
                    clear HXP HOP hdr8 hln8
                    as_aux_lemma =>
                      go_wp2_with (first | (go_at_call 90; with_reducible refine (HF4.out _).mono ?_; rintro e w' ⟨rfl, rfl⟩) | (go_at_call 90; with_reducible refine (HF8.out _).mono ?_; rintro e w' ⟨rfl, rfl⟩) | (go_quiet (fail)))
                      go_ret3
                      exact ⟨by rw [HZ.out]; rfl, HW.out⟩
                · have n117 : ((d2.toNat : Int) != 117) = true := by
                    simp; intro e; exact hd2 (UInt8.toNat_inj.1 (by simpa using (by omega : d2.toNat = 117)))
                  have HZ : Hid (Z = ([], 0, 10)) := by
                    have e6 : l.drop (k + 6) = 92 :: d2 :: l.drop (k + 8) := by rw [HD6.out]; exact congrArg (List.cons 92) HD7.out
                    rw [Hid, HZ0.out, HXP.out, e6, other_not2 _ _ _ hd2]
                    exact outF_err _ _ (by decide)
                  clear HXP HD6 HD7
                  as_aux_lemma =>
                    go_wp2_with (first | (go_at_call 90; refine (HF4.out _).mono ?_; rintro e w' ⟨rfl, rfl⟩) | (go_quiet (fail)))
                    go_ret3
                    exact ⟨by rw [HZ.out]; rfl, HW.out⟩
              · have o92 : ((d.toNat : Int) != 92) = true := by
                  simp; intro e; exact hd (UInt8.toNat_inj.1 (by simpa using (by omega : d.toNat = 92)))
                have p92 : ((d.toNat : Int) == 92) = false := by
                  simp; intro e; exact hd (UInt8.toNat_inj.1 (by simpa using (by omega : d.toNat = 92)))
                have HZ : Hid (Z = ([], 0, 10)) := by
                  rw [Hid, HZ0.out, HXP.out, HD6.out, other_not _ _ _ hd]
                  exact outF_err _ _ (by decide)
                clear HXP HD6
                by_cases h7 : k + 7 = s.size
                · have g7 : ((k : Int) + 7 == (s.size : Int)) = true := by rw [beq_iff_eq]; omega
                  as_aux_lemma =>
                    go_wp2_with (first | (go_at_call 90; refine (HF4.out _).mono ?_; rintro e w' ⟨rfl, rfl⟩) | (go_quiet (fail)))
                    go_ret3
                    exact ⟨by rw [HZ.out]; rfl, HW.out⟩
                · have g7 : ((k : Int) + 7 == (s.size : Int)) = false := beq_eq_false_iff_ne.2 (by omega)
                  as_aux_lemma =>
                    go_wp2_with (first | (go_at_call 90; refine (HF4.out _).mono ?_; rintro e w' ⟨rfl, rfl⟩) | (go_quiet (fail)))
                    go_ret3
                    exact ⟨by rw [HZ.out]; rfl, HW.out⟩
            · have HY : Hid (L = loopF f' (l.drop (k + 6)) (acc ++ Lib.encodeRune v)) := by
                rw [Hid, HXN.out, HB1.out rfl (decide_eq_false (by omega)) (decide_eq_false (by omega)), if_neg (by simp)]
              have HCH : Hid (∀ W : World, Calls Tryz.prog 91 #[.int .i64 v] W fun e w' => e = .returned (.string (tx (Lib.encodeRune v))) ∧ Fresh W w') := fun W => rchar_any _ (by omega) (by omega) (by omega) W
              have hen := (rune_vals v).2.2
              clear HXN HB1 HBS HBP
              generalize Lib.encodeRune v = ch at *
              have hcat : tx acc ++ tx ch = tx (acc ++ ch) := tx_app acc ch
              have hsz2 : ¬ 9223372036854775807 < (tx acc).size + (tx ch).size := by rw [tx_size ch, haz]; omega
              by_cases hv1 : v < 55296
              · have a1 : decide (56320 ≤ v) = false := decide_eq_false (by omega)
                have a2 : decide (55296 ≤ v) = false := decide_eq_false (by omega)
                clear hsec hfst
                as_aux_lemma =>
                  go_wp2_with (first | (go_at_call 90; refine (HF4.out _).mono ?_; rintro e w' ⟨rfl, rfl⟩) | (go_at_call 91; refine (HCH.out _).mono ?_; rintro e w3 ⟨rfl, hf3⟩; have HW3 := Lib.hid (HW.out.trans hf3); clear hf3))
                  go_roundw
                  case rel => exact ⟨k + 6, f', acc ++ ch, by omega, by omega, by push_cast; rfl, rfl, by rw [List.length_append]; omega, by have := HF.out; rw [Hid]; omega, HY.out, HW3.out⟩
                  case measure => simp [intOf]; omega
              · have a1 : 56320 ≤ v := by omega
                have a2 : ¬ v ≤ 57343 := by omega
                have a3 : 55296 ≤ v := by omega
                have a4 : ¬ v ≤ 56319 := by omega
                clear hsec hfst
                as_aux_lemma =>
                  go_wp2_with (first | (go_at_call 90; refine (HF4.out _).mono ?_; rintro e w' ⟨rfl, rfl⟩) | (go_at_call 91; refine (HCH.out _).mono ?_; rintro e w3 ⟨rfl, hf3⟩; have HW3 := Lib.hid (HW.out.trans hf3); clear hf3))
                  go_roundw
                  case rel => exact ⟨k + 6, f', acc ++ ch, by omega, by omega, by push_cast; rfl, rfl, by rw [List.length_append]; omega, by have := HF.out; rw [Hid]; omega, HY.out, HW3.out⟩
                  case measure => simp [intOf]; omega
          · have HZ : Hid (Z = ([], 0, x)) := by
              have hb := HBE.out hx
              rw [Hid, HZ0.out, HXN.out, hb, if_pos hx]
              exact outF_err _ _ hx
            have gx : (x != 0) = true := by simpa using hx
            clear HXN HBE HB1 HBS HBP hdr hln
            as_aux_lemma =>
              go_wp2_with (go_at_call 90; refine (HF4.out _).mono ?_; rintro e w' ⟨rfl, rfl⟩)
              go_ret3
              exact ⟨by rw [HZ.out]; rfl, HW.out⟩
        have m34 : ((c2.toNat : Int) == 34) = false := beq_eq_false_iff_ne.2 (fun e => d34 (UInt8.toNat_inj.1 (by simpa using (by omega : c2.toNat = 34))))
        have m92 : ((c2.toNat : Int) == 92) = false := beq_eq_false_iff_ne.2 (fun e => d92 (UInt8.toNat_inj.1 (by simpa using (by omega : c2.toNat = 92))))
        have m47 : ((c2.toNat : Int) == 47) = false := beq_eq_false_iff_ne.2 (fun e => d47 (UInt8.toNat_inj.1 (by simpa using (by omega : c2.toNat = 47))))
        have m98 : ((c2.toNat : Int) == 98) = false := beq_eq_false_iff_ne.2 (fun e => d98 (UInt8.toNat_inj.1 (by simpa using (by omega : c2.toNat = 98))))
        have m102 : ((c2.toNat : Int) == 102) = false := beq_eq_false_iff_ne.2 (fun e => d102 (UInt8.toNat_inj.1 (by simpa using (by omega : c2.toNat = 102))))
        have m110 : ((c2.toNat : Int) == 110) = false := beq_eq_false_iff_ne.2 (fun e => d110 (UInt8.toNat_inj.1 (by simpa using (by omega : c2.toNat = 110))))
        have m114 : ((c2.toNat : Int) == 114) = false := beq_eq_false_iff_ne.2 (fun e => d114 (UInt8.toNat_inj.1 (by simpa using (by omega : c2.toNat = 114))))
        have m116 : ((c2.toNat : Int) == 116) = false := beq_eq_false_iff_ne.2 (fun e => d116 (UInt8.toNat_inj.1 (by simpa using (by omega : c2.toNat = 116))))
        have m117 : ((c2.toNat : Int) == 117) = false := beq_eq_false_iff_ne.2 (fun e => d117 (UInt8.toNat_inj.1 (by simpa using (by omega : c2.toNat = 117))))
        have HZ : Hid (Z = ([], 0, 6)) := by
          have e6 : escF (c2 :: l.drop (k + 1 + 1)) = (6, [], []) := by
            unfold escF
            dsimp only
            rw [if_neg d98, if_neg d102, if_neg d110, if_neg d114, if_neg d116, if_neg d34, if_neg d92, if_neg d47, if_neg d117]
          rw [Hid, HZ0.out, HXE.out, HD2.out, e6]
          exact outF_err _ _ (by decide)
        clear HXE HD2
        as_aux_lemma =>
          go_wp2
          go_ret3
          exact ⟨by rw [HZ.out]; rfl, HW.out⟩
      · have n34 : ((c.toNat : Int) == 34) = false := by
          simp; intro e; exact c34 (UInt8.toNat_inj.1 (by simpa using (by omega : c.toNat = 34)))
        have n92 : ((c.toNat : Int) != 92) = true := by
          simp; intro e; exact c92 (UInt8.toNat_inj.1 (by simpa using (by omega : c.toNat = 92)))
        have HX : Hid (L = if c.toNat < 32 ∨ rlenF (l.drop k) = 0 then (10, [], []) else loopF f' ((l.drop k).drop (rlenF (l.drop k))) (acc ++ (l.drop k).take (rlenF (l.drop k)))) := by
          rw [Hid, HE.out, HD.out, loopF_char c34, chrF_plain c92]
          by_cases h : c.toNat < 32 ∨ rlenF (c :: l.drop (k + 1)) = 0
          · rw [if_pos h, if_pos h, if_pos (by simp)]
          · rw [if_neg h, if_neg h, if_neg (by simp)]
        have hrl : rlenF (l.drop k) ≤ s.size - k := by
          have := rlenF_le (l.drop k) (by rw [HD.out]; simp)
          rw [HDL.out] at this; exact this
        have HLK := Lib.hid (fun W => HLEN.out k W hlt)
        have HEK := Lib.hid (HEX.out k)
        clear HE HD
        generalize hn : rlenF (l.drop k) = n at *
        by_cases hb : c.toNat < 32 ∨ n = 0
        · have HZ : Hid (Z = ([], 0, 10)) := by rw [Hid, HZ0.out, HX.out, if_pos hb]; exact outF_err _ _ (by decide)
          clear HX
          by_cases h32 : c.toNat < 32
          · have g32 : (c.toNat : Int) < 32 := by omega
            as_aux_lemma =>
              go_wp2_with (go_at_call 89; refine (HLK.out _).mono ?_; rintro e w' ⟨rfl, rfl⟩)
              go_ret3
              exact ⟨by rw [HZ.out]; rfl, HW.out⟩
          · have g32 : decide ((c.toNat : Int) < 32) = false := decide_eq_false (by omega)
            obtain rfl : n = 0 := hb.resolve_left h32
            as_aux_lemma =>
              go_wp2_with (go_at_call 89; refine (HLK.out _).mono ?_; rintro e w' ⟨rfl, rfl⟩)
              go_ret3
              exact ⟨by rw [HZ.out]; rfl, HW.out⟩
        · have HY : Hid (L = loopF f' (l.drop (k + n)) (acc ++ (l.drop k).take n)) := by rw [Hid, HX.out, if_neg hb, List.drop_drop]
          clear HX
          have g32 : decide ((c.toNat : Int) < 32) = false := decide_eq_false (by omega)
          have gn : ((n : Int) == 0) = false := by simp; omega
          have hwn : IntKind.i64.wrap ((k : Int) + (n : Int)) = (k : Int) + (n : Int) := IntWalk.i64_in _ (by omega)
          have hcat : tx acc ++ s.extract k (k + n) = tx (acc ++ (l.drop k).take n) := by rw [HEK.out n, tx_app]
          have hin : (k : Int) + (n : Int) ≤ (s.size : Int) := by omega
          have hsz2 : ¬ 9223372036854775807 < (tx acc).size + (s.extract k (k + n)).size := by rw [ByteArray.size_extract]; omega
          have e1 : ((k : Int) + (n : Int)).toNat = k + n := by omega
          as_aux_lemma =>
            go_wp2_with (go_at_call 89; refine (HLK.out _).mono ?_; rintro e w' ⟨rfl, rfl⟩)
            go_roundw
            case rel => exact ⟨k + n, f', acc ++ (l.drop k).take n, by omega, by omega, by push_cast; rfl, rfl, by rw [List.length_append, List.length_take]; omega, by have := HF.out; rw [Hid]; omega, HY.out, HW.out⟩
            case measure => simp [intOf]; omega
    · obtain rfl : k = s.size := by omega
      have HX : Hid (Z = ([], 0, 11)) := by
        obtain ⟨f', rfl⟩ : ∃ f', f = f' + 1 := ⟨f - 1, by have := HF.out; omega⟩
        have e0 : l.drop s.size = [] := List.eq_nil_of_length_eq_zero (by rw [HDL.out]; omega)
        rw [Hid, HZ0.out, HE.out, e0, loopF]
        exact outF_err _ _ (by decide)
      clear HE
      as_aux_lemma =>
        go_wp2
        go_ret3
        exact ⟨by rw [HX.out]; rfl, HW.out⟩
end y
end Go.Proofs.YtcljplkkgpjhlaaGreatDoorR
