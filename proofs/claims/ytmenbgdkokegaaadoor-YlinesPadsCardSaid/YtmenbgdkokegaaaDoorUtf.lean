/-
  The document's Utf8 (of layer 5): whether a text is valid UTF-8.
-/
import Derived.Test.YtmenbgdkokegaaaDoorUtfM
namespace Go.Proofs.YtmenbgdkokegaaaDoor
open Go.ChangeShapes Go.WideShapes Go.ChangeAt Go.RowKit
variable {w : World}

set_option maxRecDepth 100000 in
set_option maxHeartbeats 1000000 in
theorem utf8_any (s : ByteArray) (w : World) (hs : s.size ≤ 1000000) : Calls Tryd.prog 24 #[.string s] w fun e w' => e = .returned (.bool (Lib.validD s.data.toList)) ∧ w = w' := by
  go_enter Tryd.func24, Tryd.ntmps24
  go_wp2
  go_loop [3] (fun i => ∃ k : Nat, k ≤ s.size + 3 ∧ i = .int .i64 k ∧ Hid (Lib.validD s.data.toList = Lib.validD (s.data.toList.drop k))) (fun i => s.size + 4 - (intOf i).toNat)
  case atStart => exact ⟨0, by omega, rfl, rfl⟩
  case round =>
    obtain ⟨i, hi, rfl, HI⟩ := hrel
    by_cases hlt : i < s.size
    · have hcb : (s[i].toNat : Int) ≤ 255 := by have := s[i].toNat_lt; omega
      go_upto_block 2 with (fail)
      go_cut [0, 3, 5, 6, 7] (fun a0 a3 a5 a6 a7 wc => a0 = .string s ∧ a3 = .int .i64 i ∧ wc = w ∧ ∃ n lo hi : Nat, n ≤ 3 ∧ lo ≤ 255 ∧ hi ≤ 255 ∧ a5 = .int .u8 lo ∧ a6 = .int .u8 hi ∧ a7 = .int .i64 n ∧ Hid (Lead s i n lo hi))
      case first =>
        by_cases c0 : s[i].toNat < 128
        · have HL := Lib.hid (lead_ascii s i hlt c0)
          have hc : (s[i].toNat : Int) < 128 := by omega
          clear c0
          go_wp2
          go_meet
          case rel => exact ⟨rfl, rfl, rfl, 0, 128, 191, by omega, by omega, by omega, rfl, rfl, rfl, HL.out⟩
        have h0 : ¬ (s[i].toNat : Int) < 128 := by omega
        by_cases c1 : s[i].toNat < 194
        · have HL := Lib.hid (lead_bad s i hlt (by omega) (by simp [Lib.firstT, c0, c1]))
          have e1 : ¬ (194 : Int) ≤ (s[i].toNat : Int) := by omega
          have e2 : ¬ (224 : Int) ≤ (s[i].toNat : Int) := by omega
          have e3 : ¬ (240 : Int) ≤ (s[i].toNat : Int) := by omega
          clear c0 c1
          go_wp2
          go_ret
          exact ⟨ret_bool (by rw [HI.out, HL.out]), rfl⟩
        have h1 : (194 : Int) ≤ (s[i].toNat : Int) := by omega
        by_cases c2 : s[i].toNat < 224
        · have HL := Lib.hid (lead_of s i 1 128 191 hlt (by omega) (by omega) (by simp [Lib.firstT, c0, c1, c2]) (by simp [Lib.firstT, Lib.accLo, c0, c1, c2]) (by simp [Lib.firstT, Lib.accHi, c0, c1, c2]))
          have e1 : (s[i].toNat : Int) ≤ 223 := by omega
          clear c0 c1 c2
          go_wp2
          go_meet
          case rel => exact ⟨rfl, rfl, rfl, 1, 128, 191, by omega, by omega, by omega, rfl, rfl, rfl, HL.out⟩
        have h2 : ¬ (s[i].toNat : Int) ≤ 223 := by omega
        have h3 : (224 : Int) ≤ (s[i].toNat : Int) := by omega
        by_cases c3 : s[i].toNat = 224
        · have HL := Lib.hid (lead_of s i 2 160 191 hlt (by omega) (by omega) (by rw [c3]; decide) (by rw [c3]; decide) (by rw [c3]; decide))
          have e1 : (s[i].toNat : Int) ≤ 239 := by omega
          have e2 : ((s[i].toNat : Int) == 224) = true := by simp; omega
          have e3 : ((s[i].toNat : Int) == 237) = false := by simp; omega
          clear c0 c1 c2 c3
          go_wp2
          go_meet
          case rel => exact ⟨rfl, rfl, rfl, 2, 160, 191, by omega, by omega, by omega, rfl, rfl, rfl, HL.out⟩
        have h4 : ((s[i].toNat : Int) == 224) = false := by simp; omega
        by_cases c4 : s[i].toNat < 237
        · have HL := Lib.hid (lead_of s i 2 128 191 hlt (by omega) (by omega) (by simp [Lib.firstT, c0, c1, c2, c3, c4]) (by simp [Lib.firstT, Lib.accLo, c0, c1, c2, c3, c4]) (by simp [Lib.firstT, Lib.accHi, c0, c1, c2, c3, c4]))
          have e1 : (s[i].toNat : Int) ≤ 239 := by omega
          have e3 : ((s[i].toNat : Int) == 237) = false := by simp; omega
          clear c0 c1 c2 c3 c4
          go_wp2
          go_meet
          case rel => exact ⟨rfl, rfl, rfl, 2, 128, 191, by omega, by omega, by omega, rfl, rfl, rfl, HL.out⟩
        by_cases c5 : s[i].toNat = 237
        · have HL := Lib.hid (lead_of s i 2 128 159 hlt (by omega) (by omega) (by rw [c5]; decide) (by rw [c5]; decide) (by rw [c5]; decide))
          have e1 : (s[i].toNat : Int) ≤ 239 := by omega
          have e3 : ((s[i].toNat : Int) == 237) = true := by simp; omega
          clear c0 c1 c2 c3 c4 c5
          go_wp2
          go_meet
          case rel => exact ⟨rfl, rfl, rfl, 2, 128, 159, by omega, by omega, by omega, rfl, rfl, rfl, HL.out⟩
        have h5 : ((s[i].toNat : Int) == 237) = false := by simp; omega
        by_cases c6 : s[i].toNat < 240
        · have HL := Lib.hid (lead_of s i 2 128 191 hlt (by omega) (by omega) (by simp [Lib.firstT, c0, c1, c2, c3, c4, c5, c6]) (by simp [Lib.firstT, Lib.accLo, c0, c1, c2, c3, c4, c5, c6]) (by simp [Lib.firstT, Lib.accHi, c0, c1, c2, c3, c4, c5, c6]))
          have e1 : (s[i].toNat : Int) ≤ 239 := by omega
          clear c0 c1 c2 c3 c4 c5 c6
          go_wp2
          go_meet
          case rel => exact ⟨rfl, rfl, rfl, 2, 128, 191, by omega, by omega, by omega, rfl, rfl, rfl, HL.out⟩
        have h6 : ¬ (s[i].toNat : Int) ≤ 239 := by omega
        have h7 : (240 : Int) ≤ (s[i].toNat : Int) := by omega
        by_cases c7 : s[i].toNat = 240
        · have HL := Lib.hid (lead_of s i 3 144 191 hlt (by omega) (by omega) (by rw [c7]; decide) (by rw [c7]; decide) (by rw [c7]; decide))
          have e1 : (s[i].toNat : Int) ≤ 244 := by omega
          have e2 : ((s[i].toNat : Int) == 240) = true := by simp; omega
          have e3 : ((s[i].toNat : Int) == 244) = false := by simp; omega
          clear c0 c1 c2 c3 c4 c5 c6 c7
          go_wp2
          go_meet
          case rel => exact ⟨rfl, rfl, rfl, 3, 144, 191, by omega, by omega, by omega, rfl, rfl, rfl, HL.out⟩
        have h8 : ((s[i].toNat : Int) == 240) = false := by simp; omega
        by_cases c8 : s[i].toNat < 244
        · have HL := Lib.hid (lead_of s i 3 128 191 hlt (by omega) (by omega) (by simp [Lib.firstT, c0, c1, c2, c3, c4, c5, c6, c7, c8]) (by simp [Lib.firstT, Lib.accLo, c0, c1, c2, c3, c4, c5, c6, c7, c8]) (by simp [Lib.firstT, Lib.accHi, c0, c1, c2, c3, c4, c5, c6, c7, c8]))
          have e1 : (s[i].toNat : Int) ≤ 244 := by omega
          have e3 : ((s[i].toNat : Int) == 244) = false := by simp; omega
          clear c0 c1 c2 c3 c4 c5 c6 c7 c8
          go_wp2
          go_meet
          case rel => exact ⟨rfl, rfl, rfl, 3, 128, 191, by omega, by omega, by omega, rfl, rfl, rfl, HL.out⟩
        by_cases c9 : s[i].toNat = 244
        · have HL := Lib.hid (lead_of s i 3 128 143 hlt (by omega) (by omega) (by rw [c9]; decide) (by rw [c9]; decide) (by rw [c9]; decide))
          have e1 : (s[i].toNat : Int) ≤ 244 := by omega
          have e3 : ((s[i].toNat : Int) == 244) = true := by simp; omega
          clear c0 c1 c2 c3 c4 c5 c6 c7 c8 c9
          go_wp2
          go_meet
          case rel => exact ⟨rfl, rfl, rfl, 3, 128, 143, by omega, by omega, by omega, rfl, rfl, rfl, HL.out⟩
        · have HL := Lib.hid (lead_bad s i hlt (by omega) (by simp [Lib.firstT, c0, c1, c2, c3, c4, c5, c6, c7, c8, c9]))
          have e1 : ¬ (s[i].toNat : Int) ≤ 244 := by omega
          clear c0 c1 c2 c3 c4 c5 c6 c7 c8 c9
          go_wp2
          go_ret
          exact ⟨ret_bool (by rw [HI.out, HL.out]), rfl⟩
      case rest =>
        obtain ⟨rfl, rfl, rfl, n, lo, hi', hn, hlo, hhi, rfl, rfl, rfl, HL⟩ := hcut
        go_wp2
        go_loop [5, 6, 8] (fun a5 a6 a8 => ∃ k lo' hi'' : Nat, 1 ≤ k ∧ k ≤ n + 1 ∧ lo' ≤ 255 ∧ hi'' ≤ 255 ∧ a5 = .int .u8 lo' ∧ a6 = .int .u8 hi'' ∧ a8 = .int .i64 k ∧ Hid (Cont s i n lo hi' k lo' hi'')) (fun _ _ a8 => 5 - (intOf a8).toNat)
        case atStart => exact ⟨1, lo, hi', by omega, by omega, hlo, hhi, rfl, rfl, rfl, rfl⟩
        case round =>
          obtain ⟨k, lo', hi'', hk1, hk2, hlo', hhi', rfl, rfl, rfl, HC⟩ := hrel
          by_cases hkn : k ≤ n
          · by_cases hend : s.size ≤ i + k
            · have H0 := Lib.hid (cont_short HC.out hkn hend)
              go_wp2
              go_ret
              exact ⟨ret_bool (by rw [HI.out, HL.out, H0.out, Bool.false_and]), rfl⟩
            · have hik : i + k < s.size := by omega
              have hx : ((i : Int) + (k : Int)).toNat = i + k := by omega
              have hbb : s[i + k].toNat ≤ 255 := by have := s[i + k].toNat_lt; omega
              have hik1 : (i : Int) + k < s.size := by omega
              by_cases b1 : s[i + k].toNat < lo'
              · have H0 := Lib.hid (cont_no HC.out hkn hik (.inl b1))
                have b1' : (s[i + k].toNat : Int) < (lo' : Int) := by omega
                clear b1 hend
                go_wp2
                go_ret
                exact ⟨ret_bool (by rw [HI.out, HL.out, H0.out, Bool.false_and]), rfl⟩
              by_cases b2 : hi'' < s[i + k].toNat
              · have H0 := Lib.hid (cont_no HC.out hkn hik (.inr b2))
                have b1' : ¬ (s[i + k].toNat : Int) < (lo' : Int) := by omega
                have b2' : (hi'' : Int) < (s[i + k].toNat : Int) := by omega
                clear b1 b2 hend
                go_wp2
                go_ret
                exact ⟨ret_bool (by rw [HI.out, HL.out, H0.out, Bool.false_and]), rfl⟩
              · have H0 := Lib.hid (cont_yes HC.out hkn hik ⟨by omega, by omega⟩)
                have b1' : ¬ (s[i + k].toNat : Int) < (lo' : Int) := by omega
                have b2' : ¬ (hi'' : Int) < (s[i + k].toNat : Int) := by omega
                clear b1 b2 hend
                go_wp2
                go_round
                case rel => exact ⟨k + 1, 128, 191, by omega, by omega, by omega, by omega, rfl, rfl, by go_num, H0.out⟩
                case measure => simp [intOf]; omega
          · obtain rfl : k = n + 1 := by omega
            have H0 := Lib.hid (cont_end HC.out)
            go_wp2
            go_round
            case rel => exact ⟨i + 1 + n, by omega, by go_num, by rw [Hid, HI.out, HL.out, H0.out, Bool.true_and]⟩
            case measure => simp [intOf]; omega
    · have H : Hid (Lib.validD s.data.toList = true) := by
        rw [Hid, HI.out, List.drop_eq_nil_of_le (by simpa using hlt)]; rfl
      go_wp2
      go_ret
      exact ⟨ret_bool (by rw [H.out]), rfl⟩
end Go.Proofs.YtmenbgdkokegaaaDoor
