/-
  The document's Utf8 (of layer 5): whether a text is valid UTF-8.
  The document's rows of a text.
  The document's example; the statement YlinesCut, walked.
  Awake of the law: the document's example, and the three laws beneath.
  What the three statements of package bosunlaw11 share: the world that is laid, and what its variables give.
-/
import Derived.Test.YthhdadfnkdjmkaaGreatDoorCat08
import Derived.Test.YthhdadfnkdjmkaaGreatDoorCat22
import Derived.Test.YthhdadfnkdjmkaaGreatDoorCat24
import Derived.Test.YthhdadfnkdjmkaaGreatDoorCat23
import Derived.Test.YthhdadfnkdjmkaaGreatDoorCat16
import Derived.Test.YthhdadfnkdjmkaaGreatDoorCards
import Derived.Test.YthhdadfnkdjmkaaGreatDoorTie
import Derived.Test.YthhdadfnkdjmkaaGreatDoorCat11
import Derived.Shelf.Vars
import Derived.Lib.LaidIn
import Derived.Lib.LaidU8T
import Derived.Deep.DeepHandedRow
import Derived.Deep.DeepWitnessRowRef
import Derived.SevenTiedAt
import Derived.Carry
import Derived.ChangeOld
import Derived.LaidLaws
import Derived.Stop.LaidErr
namespace Go.Proofs.YthhdadfnkdjmkaaGreatDoor
open Go.ChangeShapes Go.WideShapes Go.ChangeAt Go.RowKit
variable {w : World}

set_option maxRecDepth 100000 in
set_option maxHeartbeats 1000000 in
theorem utf8_any (s : ByteArray) (w : World) (hs : s.size ≤ 1000000) : Calls Tryz.prog 87 #[.string s] w fun e w' => e = .returned (.bool (Lib.validD s.data.toList)) ∧ w = w' := by
  go_enter Tryz.func87, Tryz.ntmps87
  go_wp2
  go_loop [3] (fun i => ∃ k : Nat, k ≤ s.size + 3 ∧ i = .int .i64 k ∧ Hid (Lib.validD s.data.toList = Lib.validD (s.data.toList.drop k))) (fun i => s.size + 4 - (intOf i).toNat)
  case atStart => exact ⟨0, by omega, rfl, rfl⟩
  case round =>
    obtain ⟨i, hi, rfl, HI⟩ := hrel
    by_cases hlt : i < s.size
    · have hcb : (s[i].toNat : Int) ≤ 255 := by have := s[i].toNat_lt; omega
      go_upto_block 2 with (fail)
      go_cut [0, 3, 5, 6, 7] (fun a0 a3 a5 a6 a7 wc => a0 = .string s ∧ a3 = .int .i64 i ∧ wc = w ∧ ∃ n lo hi : Nat, n ≤ 3 ∧ lo ≤ 255 ∧ hi ≤ 255 ∧ a5 = .int .u8 lo ∧ a6 = .int .u8 hi ∧ a7 = .int .i64 n ∧ Hid (Lead s i n lo hi))
      case first =>
        by_cases c0 : s[i].toNat < 128
        · have HL := Lib.hid (lead_ascii s i hlt c0)
          have hc : (s[i].toNat : Int) < 128 := by omega
          clear c0
          go_wp2
          go_meet
          case rel => exact ⟨rfl, rfl, rfl, 0, 128, 191, by omega, by omega, by omega, rfl, rfl, rfl, HL.out⟩
        have h0 : ¬ (s[i].toNat : Int) < 128 := by omega
        by_cases c1 : s[i].toNat < 194
        · have HL := Lib.hid (lead_bad s i hlt (by omega) (by simp [Lib.firstT, c0, c1]))
          have e1 : ¬ (194 : Int) ≤ (s[i].toNat : Int) := by omega
          have e2 : ¬ (224 : Int) ≤ (s[i].toNat : Int) := by omega
          have e3 : ¬ (240 : Int) ≤ (s[i].toNat : Int) := by omega
          clear c0 c1
          go_wp2
          go_ret
          exact ⟨ret_bool (by rw [HI.out, HL.out]), rfl⟩
        have h1 : (194 : Int) ≤ (s[i].toNat : Int) := by omega
        by_cases c2 : s[i].toNat < 224
        · have HL := Lib.hid (lead_of s i 1 128 191 hlt (by omega) (by omega) (by simp [Lib.firstT, c0, c1, c2]) (by simp [Lib.firstT, Lib.accLo, c0, c1, c2]) (by simp [Lib.firstT, Lib.accHi, c0, c1, c2]))
          have e1 : (s[i].toNat : Int) ≤ 223 := by omega
          clear c0 c1 c2
          go_wp2
          go_meet
          case rel => exact ⟨rfl, rfl, rfl, 1, 128, 191, by omega, by omega, by omega, rfl, rfl, rfl, HL.out⟩
        have h2 : ¬ (s[i].toNat : Int) ≤ 223 := by omega
        have h3 : (224 : Int) ≤ (s[i].toNat : Int) := by omega
        by_cases c3 : s[i].toNat = 224
        · have HL := Lib.hid (lead_of s i 2 160 191 hlt (by omega) (by omega) (by rw [c3]; decide) (by rw [c3]; decide) (by rw [c3]; decide))
          have e1 : (s[i].toNat : Int) ≤ 239 := by omega
          have e2 : ((s[i].toNat : Int) == 224) = true := by simp; omega
          have e3 : ((s[i].toNat : Int) == 237) = false := by simp; omega
          clear c0 c1 c2 c3
          go_wp2
          go_meet
          case rel => exact ⟨rfl, rfl, rfl, 2, 160, 191, by omega, by omega, by omega, rfl, rfl, rfl, HL.out⟩
        have h4 : ((s[i].toNat : Int) == 224) = false := by simp; omega
        by_cases c4 : s[i].toNat < 237
        · have HL := Lib.hid (lead_of s i 2 128 191 hlt (by omega) (by omega) (by simp [Lib.firstT, c0, c1, c2, c3, c4]) (by simp [Lib.firstT, Lib.accLo, c0, c1, c2, c3, c4]) (by simp [Lib.firstT, Lib.accHi, c0, c1, c2, c3, c4]))
          have e1 : (s[i].toNat : Int) ≤ 239 := by omega
          have e3 : ((s[i].toNat : Int) == 237) = false := by simp; omega
          clear c0 c1 c2 c3 c4
          go_wp2
          go_meet
          case rel => exact ⟨rfl, rfl, rfl, 2, 128, 191, by omega, by omega, by omega, rfl, rfl, rfl, HL.out⟩
        by_cases c5 : s[i].toNat = 237
        · have HL := Lib.hid (lead_of s i 2 128 159 hlt (by omega) (by omega) (by rw [c5]; decide) (by rw [c5]; decide) (by rw [c5]; decide))
          have e1 : (s[i].toNat : Int) ≤ 239 := by omega
          have e3 : ((s[i].toNat : Int) == 237) = true := by simp; omega
          clear c0 c1 c2 c3 c4 c5
          go_wp2
          go_meet
          case rel => exact ⟨rfl, rfl, rfl, 2, 128, 159, by omega, by omega, by omega, rfl, rfl, rfl, HL.out⟩
        have h5 : ((s[i].toNat : Int) == 237) = false := by simp; omega
        by_cases c6 : s[i].toNat < 240
        · have HL := Lib.hid (lead_of s i 2 128 191 hlt (by omega) (by omega) (by simp [Lib.firstT, c0, c1, c2, c3, c4, c5, c6]) (by simp [Lib.firstT, Lib.accLo, c0, c1, c2, c3, c4, c5, c6]) (by simp [Lib.firstT, Lib.accHi, c0, c1, c2, c3, c4, c5, c6]))
          have e1 : (s[i].toNat : Int) ≤ 239 := by omega
          clear c0 c1 c2 c3 c4 c5 c6
          go_wp2
          go_meet
          case rel => exact ⟨rfl, rfl, rfl, 2, 128, 191, by omega, by omega, by omega, rfl, rfl, rfl, HL.out⟩
        have h6 : ¬ (s[i].toNat : Int) ≤ 239 := by omega
        have h7 : (240 : Int) ≤ (s[i].toNat : Int) := by omega
        by_cases c7 : s[i].toNat = 240
        · have HL := Lib.hid (lead_of s i 3 144 191 hlt (by omega) (by omega) (by rw [c7]; decide) (by rw [c7]; decide) (by rw [c7]; decide))
          have e1 : (s[i].toNat : Int) ≤ 244 := by omega
          have e2 : ((s[i].toNat : Int) == 240) = true := by simp; omega
          have e3 : ((s[i].toNat : Int) == 244) = false := by simp; omega
          clear c0 c1 c2 c3 c4 c5 c6 c7
          go_wp2
          go_meet
          case rel => exact ⟨rfl, rfl, rfl, 3, 144, 191, by omega, by omega, by omega, rfl, rfl, rfl, HL.out⟩
        have h8 : ((s[i].toNat : Int) == 240) = false := by simp; omega
        by_cases c8 : s[i].toNat < 244
        · have HL := Lib.hid (lead_of s i 3 128 191 hlt (by omega) (by omega) (by simp [Lib.firstT, c0, c1, c2, c3, c4, c5, c6, c7, c8]) (by simp [Lib.firstT, Lib.accLo, c0, c1, c2, c3, c4, c5, c6, c7, c8]) (by simp [Lib.firstT, Lib.accHi, c0, c1, c2, c3, c4, c5, c6, c7, c8]))
          have e1 : (s[i].toNat : Int) ≤ 244 := by omega
          have e3 : ((s[i].toNat : Int) == 244) = false := by simp; omega
          clear c0 c1 c2 c3 c4 c5 c6 c7 c8
          go_wp2
          go_meet
          case rel => exact ⟨rfl, rfl, rfl, 3, 128, 191, by omega, by omega, by omega, rfl, rfl, rfl, HL.out⟩
        by_cases c9 : s[i].toNat = 244
        · have HL := Lib.hid (lead_of s i 3 128 143 hlt (by omega) (by omega) (by rw [c9]; decide) (by rw [c9]; decide) (by rw [c9]; decide))
          have e1 : (s[i].toNat : Int) ≤ 244 := by omega
          have e3 : ((s[i].toNat : Int) == 244) = true := by simp; omega
          clear c0 c1 c2 c3 c4 c5 c6 c7 c8 c9
          go_wp2
          go_meet
          case rel => exact ⟨rfl, rfl, rfl, 3, 128, 143, by omega, by omega, by omega, rfl, rfl, rfl, HL.out⟩
        · have HL := Lib.hid (lead_bad s i hlt (by omega) (by simp [Lib.firstT, c0, c1, c2, c3, c4, c5, c6, c7, c8, c9]))
          have e1 : ¬ (s[i].toNat : Int) ≤ 244 := by omega
          clear c0 c1 c2 c3 c4 c5 c6 c7 c8 c9
          go_wp2
          go_ret
          exact ⟨ret_bool (by rw [HI.out, HL.out]), rfl⟩
      case rest =>
        obtain ⟨rfl, rfl, rfl, n, lo, hi', hn, hlo, hhi, rfl, rfl, rfl, HL⟩ := hcut
        go_wp2
        go_loop [5, 6, 8] (fun a5 a6 a8 => ∃ k lo' hi'' : Nat, 1 ≤ k ∧ k ≤ n + 1 ∧ lo' ≤ 255 ∧ hi'' ≤ 255 ∧ a5 = .int .u8 lo' ∧ a6 = .int .u8 hi'' ∧ a8 = .int .i64 k ∧ Hid (Cont s i n lo hi' k lo' hi'')) (fun _ _ a8 => 5 - (intOf a8).toNat)
        case atStart => exact ⟨1, lo, hi', by omega, by omega, hlo, hhi, rfl, rfl, rfl, rfl⟩
        case round =>
          obtain ⟨k, lo', hi'', hk1, hk2, hlo', hhi', rfl, rfl, rfl, HC⟩ := hrel
          by_cases hkn : k ≤ n
          · by_cases hend : s.size ≤ i + k
            · have H0 := Lib.hid (cont_short HC.out hkn hend)
              go_wp2
              go_ret
              exact ⟨ret_bool (by rw [HI.out, HL.out, H0.out, Bool.false_and]), rfl⟩
            · have hik : i + k < s.size := by omega
              have hx : ((i : Int) + (k : Int)).toNat = i + k := by omega
              have hbb : s[i + k].toNat ≤ 255 := by have := s[i + k].toNat_lt; omega
              have hik1 : (i : Int) + k < s.size := by omega
              by_cases b1 : s[i + k].toNat < lo'
              · have H0 := Lib.hid (cont_no HC.out hkn hik (.inl b1))
                have b1' : (s[i + k].toNat : Int) < (lo' : Int) := by omega
                clear b1 hend
                go_wp2
                go_ret
                exact ⟨ret_bool (by rw [HI.out, HL.out, H0.out, Bool.false_and]), rfl⟩
              by_cases b2 : hi'' < s[i + k].toNat
              · have H0 := Lib.hid (cont_no HC.out hkn hik (.inr b2))
                have b1' : ¬ (s[i + k].toNat : Int) < (lo' : Int) := by omega
                have b2' : (hi'' : Int) < (s[i + k].toNat : Int) := by omega
                clear b1 b2 hend
                go_wp2
                go_ret
                exact ⟨ret_bool (by rw [HI.out, HL.out, H0.out, Bool.false_and]), rfl⟩
              · have H0 := Lib.hid (cont_yes HC.out hkn hik ⟨by omega, by omega⟩)
                have b1' : ¬ (s[i + k].toNat : Int) < (lo' : Int) := by omega
                have b2' : ¬ (hi'' : Int) < (s[i + k].toNat : Int) := by omega
                clear b1 b2 hend
                go_wp2
                go_round
                case rel => exact ⟨k + 1, 128, 191, by omega, by omega, by omega, by omega, rfl, rfl, by go_num, H0.out⟩
                case measure => simp [intOf]; omega
          · obtain rfl : k = n + 1 := by omega
            have H0 := Lib.hid (cont_end HC.out)
            go_wp2
            go_round
            case rel => exact ⟨i + 1 + n, by omega, by go_num, by rw [Hid, HI.out, HL.out, H0.out, Bool.true_and]⟩
            case measure => simp [intOf]; omega
    · have H : Hid (Lib.validD s.data.toList = true) := by
        rw [Hid, HI.out, List.drop_eq_nil_of_le (by simpa using hlt)]; rfl
      go_wp2
      go_ret
      exact ⟨ret_bool (by rw [H.out]), rfl⟩
end Go.Proofs.YthhdadfnkdjmkaaGreatDoor
namespace Go.Proofs.YthhdadfnkdjmkaaGreatDoor
open Go.ChangeShapes Go.WideShapes Go.ChangeAt Go.RowKit
attribute [local go_sem ↓] Go.wp_at_zero Go.wp_at_succ
variable {w : World}

theorem trimR_snoc (x : List UInt8) : Lib.trimRightB (x ++ [32]) 32 = Lib.trimRightB x 32 := by simp [Lib.trimRightB]
theorem trimR_stop (x : List UInt8) (c : UInt8) (h : c ≠ 32) : Lib.trimRightB (x ++ [c]) 32 = x ++ [c] := by simp [Lib.trimRightB, h]
def TrimAt (l : List UInt8) (en : Nat) : Prop := Lib.trimRightB l 32 = Lib.trimRightB (l.take en) 32
theorem trimAt_start (l : List UInt8) : TrimAt l l.length := by unfold TrimAt; rw [List.take_length]
theorem trimAt_step {l : List UInt8} {m : Nat} (H : TrimAt l (m + 1)) (h : l[m]? = some 32) : TrimAt l m := by
  unfold TrimAt at *
  rw [H]
  obtain ⟨hm, e⟩ := List.getElem?_eq_some_iff.1 h
  rw [List.take_succ_eq_append_getElem hm, e, trimR_snoc]
theorem trimAt_zero {l : List UInt8} (H : TrimAt l 0) : Lib.trimRightB l 32 = l.take 0 := by
  unfold TrimAt at H
  rw [H]; rfl
theorem trimAt_stop {l : List UInt8} {m : Nat} {c : UInt8} (H : TrimAt l (m + 1)) (h : l[m]? = some c) (hc : c ≠ 32) : Lib.trimRightB l 32 = l.take (m + 1) := by
  unfold TrimAt at H
  rw [H]
  obtain ⟨hm, e⟩ := List.getElem?_eq_some_iff.1 h
  rw [List.take_succ_eq_append_getElem hm, e, trimR_stop _ _ hc]
theorem drop_of_at {t : List UInt8} {a : Nat} {c : UInt8} (h : t[a]? = some c) : t.drop a = c :: t.drop (a + 1) := by
  obtain ⟨hm, e⟩ := List.getElem?_eq_some_iff.1 h
  rw [List.drop_eq_getElem_cons hm, e]
theorem rAt_blank {n : Nat} {t : List UInt8} {acc out : List Rw} {a : Nat} (H : RowsAt n t acc out a) (h : t[a]? = some 32) : RowsAt n t acc out (a + 1) := by
  unfold RowsAt at *
  rw [H, drop_of_at h, rowsS, if_pos rfl]
theorem rAt_dash {n : Nat} {t : List UInt8} {acc out : List Rw} {a : Nat} (H : RowsAt n t acc out a) (h : t[a]? = some 45) (hd : dashB (t.drop a) = true) : RowsAt n t acc (out ++ [⟨n, a, true, []⟩]) (a + 1) := by
  unfold RowsAt at *
  rw [H, rowsS_dash n a t (List.getElem?_eq_some_iff.1 h).1 hd]
  simp
theorem dash_end {t : List UInt8} {a : Nat} (h : t[a]? = some 45) (he : a + 1 = t.length) : dashB (t.drop a) = true := by
  rw [drop_of_at h, List.drop_eq_nil_of_le (by omega)]; rfl
theorem dash_blank {t : List UInt8} {a : Nat} (h : t[a]? = some 45) (h2 : t[a + 1]? = some 32) : dashB (t.drop a) = true := by
  rw [drop_of_at h, drop_of_at h2]; simp [dashB]
theorem dash_other {t : List UInt8} {a : Nat} {c : UInt8} (h : t[a]? = some c) (hc : c ≠ 45) : dashB (t.drop a) = false := by
  rw [drop_of_at h]; simp [dashB, List.isPrefixOf, hc, Ne.symm hc]
theorem dash_word {t : List UInt8} {a : Nat} {d : UInt8} (h : t[a]? = some 45) (h2 : t[a + 1]? = some d) (hd : d ≠ 32) : dashB (t.drop a) = false := by
  rw [drop_of_at h, drop_of_at h2]; simp [dashB, List.isPrefixOf, Ne.symm hd]
theorem rAt_text {n : Nat} {t : List UInt8} {acc out : List Rw} {a : Nat} {c : UInt8} (H : RowsAt n t acc out a) (h : t[a]? = some c) (hc : c ≠ 32) (hd : dashB (t.drop a) = false) : RowsAt n t acc (out ++ [⟨n, a, false, t.drop a⟩]) t.length := by
  obtain ⟨hm, e⟩ := List.getElem?_eq_some_iff.1 h
  unfold RowsAt at *
  rw [H, rowsS_text n a t hm (by rw [e]; exact hc) hd, rowsS_end n t.length t (Nat.le_refl _)]
  simp
theorem rAt_end {n : Nat} {t : List UInt8} {acc out : List Rw} {a : Nat} (H : RowsAt n t acc out a) (h : t.length ≤ a) : acc ++ rowsS n 0 t = out := rowsAt_end H h
theorem take_at (C : ByteArray) (en a : Nat) (h : a < en) (he : en ≤ C.size) : (C.data.toList.take en)[a]? = some (C[a]'(by omega)) := by
  rw [List.getElem?_take_of_lt h, List.getElem?_eq_getElem (by simpa using (show a < C.size by omega))]
  rfl
theorem all_at (C : ByteArray) (a : Nat) (h : a < C.size) : C.data.toList[a]? = some C[a] := by
  rw [List.getElem?_eq_getElem (by simpa using h)]
  rfl
/-- What the document's Cut answers. -/
def RefIs (w : World) (x : List Rw × Nat × Int) (e : Ending) (w' : World) : Prop :=
  ∃ v B, e = .returned (.tuple #[v, .int .i64 (x.2.1 : Int), .int .i64 x.2.2]) ∧ w.heap.size ≤ B ∧ RBuf 66 w' B v x.1 ∧ Fresh w w'
set_option maxRecDepth 100000 in
set_option maxHeartbeats 4000000 in
theorem refcut_any (s : ByteArray) (w : World) (hs : s.size ≤ 100000) : Calls Tryz.prog 27 #[.string s] w (RefIs w (cutL V s.data.toList)) := by
  obtain ⟨i0, hi, hz0, hz1, hz2⟩ := info_parts info31
  have HLI := Lib.hid (fun W => lines_any s W (by omega))
  obtain ⟨L, hL⟩ : ∃ L, L = lnsA [] s.data.toList := ⟨_, rfl⟩
  obtain ⟨R, hR⟩ : ∃ R, R = cutL V s.data.toList := ⟨_, rfl⟩
  have HRL : Hid (R = cutA V 0 L []) := by rw [Hid, hR, hL]; rfl
  have HLEN : Hid (L.length ≤ 100001) := by
    rw [Hid, hL]
    have := lnsA_len [] s.data.toList
    simp at this; omega
  have HMEM : Hid (∀ x ∈ L, x.length ≤ 100000) := by
    rw [Hid, hL]
    intro x hx
    have := lnsA_mem _ _ x hx
    simp at this; omega
  rw [← hL] at HLI
  rw [← hR]
  clear hL hR
  go_enter Tryz.func27, Tryz.ntmps27
  go_wp2_with (fail)
  refine (HLI.out _).mono ?_
  rintro e w1 ⟨⟨gL, capL, rfl, hsb⟩, hf1⟩
  have HSB := Lib.hid hsb
  have HF1 := Lib.hid hf1
  clear hsb hf1
  go_wp2
  go_loopw [5, 7] (fun a5 a7 wr => ∃ (k : Nat) (acc : List Rw) (v : Value), k ≤ L.length ∧ v = a5 ∧ a7 = .int .i64 (k : Int) ∧ Hid (RBuf 66 wr w1.heap.size v acc) ∧ Hid (R = cutA V k (L.drop k) acc) ∧ Hid (acc.length ≤ k * 1000000) ∧ Hid (Fresh w1 wr)) (fun _ a7 _ => L.length - (intOf a7).toNat)
  case atStart => exact ⟨0, [], .slice none 0 0, by omega, rfl, by simp, World.ownsRow_nil _ _ _ _, HRL.out, by simp [Hid], Fresh.refl _⟩
  case round =>
    obtain ⟨k, acc, v, hk, rfl, rfl, HB, HR, HAL, HF⟩ := hrel
    have hLL := HLEN.out
    by_cases hlt : k < L.length
    · have hcell := (HSB.out.fresh HF.out).cell k hlt
      have HD : Hid (L.drop k = L[k] :: L.drop (k + 1)) := List.drop_eq_getElem_cons hlt
      have hml := HMEM.out L[k] (List.getElem_mem hlt)
      have HML := Lib.hid hml
      have HCO := Lib.hid (fun W => content_of V (tx L[k]) W (by rw [tx_size]; omega) (fun W => utf8_any _ W (by rw [tx_size]; omega)))
      clear hml
      obtain ⟨x, hx⟩ : ∃ x, x = L[k] := ⟨_, rfl⟩
      rw [← hx] at hcell HD HCO HML
      have HTL : Hid ((tx x).data.toList = x) := tx_toList x
      clear hx
      cases hbad : badL V x with
      | true =>
        have hc := contRes_bad (V := V) (s := tx x) (by rw [tx_toList]; exact hbad)
        rw [hc] at HCO
        have HX : Hid (R = ([], k, 10)) := by rw [Hid, HR.out, HD.out]; exact cutA_bad V hbad
        clear hc hbad
        go_wp2_with (go_at_call 57; refine (HCO.out _).mono ?_; rintro e w' ⟨rfl, rfl⟩)
        go_ret3
        exact ⟨.slice none 0 0, w1.heap.size, by rw [HX.out]; rfl, HF1.out.size, by rw [HX.out]; exact World.ownsRow_nil _ _ _ _, HF1.out.trans HF.out⟩
      | false =>
        cases hrem : rem x with
        | none =>
          have hc := contRes_none (V := V) (s := tx x) (by rw [tx_toList]; exact hbad) (by rw [tx_toList]; exact hrem)
          rw [hc] at HCO
          have HX : Hid (R = ([], k, 11)) := by rw [Hid, HR.out, HD.out]; exact cutA_end V hbad hrem
          clear hc hbad hrem
          go_wp2_with (go_at_call 57; refine (HCO.out _).mono ?_; rintro e w' ⟨rfl, rfl⟩)
          go_ret3
          exact ⟨.slice none 0 0, w1.heap.size, by rw [HX.out]; rfl, HF1.out.size, by rw [HX.out]; exact World.ownsRow_nil _ _ _ _, HF1.out.trans HF.out⟩
        | some m =>
          have hc := contRes_some (V := V) (s := tx x) (by rw [tx_toList]; exact hbad) (by rw [tx_toList]; exact hrem)
          rw [hc] at HCO
          have HX : Hid (R = cutA V (k + 1) (L.drop (k + 1)) (acc ++ rowsS k 0 (Lib.trimRightB (x.take m) 32))) := by rw [Hid, HR.out, HD.out]; exact cutA_step V hbad hrem
          have hcl : ((tx x).extract 0 m).data.toList = x.take m := by rw [tx_extract, tx_toList, tx_toList]; simp
          rw [← hcl] at HX
          have hcs : ((tx x).extract 0 m).size ≤ 100000 := by
            have := congrArg List.length hcl
            simp at this
            have h2 := HML.out
            simp; omega
          clear hc hbad hrem hcl
          generalize (tx x).extract 0 m = C at *
          go_wp2_with (go_at_call 57; refine (HCO.out _).mono ?_; rintro e w' ⟨rfl, rfl⟩)
          go_loop [10] (fun a10 => ∃ m : Nat, m ≤ C.size ∧ a10 = .int .i64 (m : Int) ∧ Hid (TrimAt C.data.toList m)) (fun a10 => (intOf a10).toNat)
          case atStart => exact ⟨C.size, by omega, rfl, by have := trimAt_start C.data.toList; rw [Hid]; simpa using this⟩
          case round =>
            obtain ⟨en, hen, rfl, HTR⟩ := hrel
            have HDONE : Hid ((∃ j, en = j + 1 ∧ ∃ h : j < C.size, C[j] = 32) ∨ Lib.trimRightB C.data.toList 32 = C.data.toList.take en) := by
              rcases en with _ | j
              · exact .inr (trimAt_zero HTR.out)
              · by_cases h32 : C[j] = 32
                · exact .inl ⟨j, rfl, by omega, h32⟩
                · exact .inr (trimAt_stop HTR.out (all_at C j (by omega)) h32)
            by_cases hgo : ∃ j, en = j + 1 ∧ ∃ h : j < C.size, C[j] = 32
            · obtain ⟨j, rfl, hj, c32⟩ := hgo
              have e32 : ((C[j].toNat : Int) == 32) = true := eqB (n := 32) c32 (by omega)
              have x32 : (C[j].toNat : Int) = 32 := by simpa using e32
              have HN := Lib.hid (trimAt_step HTR.out (by rw [all_at C j hj, c32]))
              clear c32 HDONE
              go_wp2
              all_goals try (exfalso; omega)
              go_round
              case rel => exact ⟨j, by omega, by simp, HN.out⟩
              case measure => simp [intOf]
            · have HT : Hid (Lib.trimRightB C.data.toList 32 = C.data.toList.take en) := by
                rcases HDONE.out with h | h
                · exact absurd h hgo
                · exact h
              rw [HT.out] at HX
              have HTLEN : Hid ((C.data.toList.take en).length = en) := by rw [Hid]; simp; omega
              have HAT : Hid (∀ a (h : a < en), (C.data.toList.take en)[a]? = some (C[a]'(by omega))) := fun a h => take_at C en a h hen
              have HEX : Hid (∀ a, C.extract a en = tx ((C.data.toList.take en).drop a)) := fun a => by
                rw [tx_extract, List.drop_take]
              have HST : Hid (RowsAt k (C.data.toList.take en) acc acc 0) := by rw [Hid, RowsAt]; rfl
              have HEXIT : Hid (en = 0 ∨ ∃ j, en = j + 1 ∧ ∃ h : j < C.size, C[j] ≠ 32) := by
                rcases en with _ | j
                · exact .inl rfl
                · exact .inr ⟨j, rfl, by omega, fun e => hgo ⟨j, rfl, by omega, e⟩⟩
              obtain ⟨t, ht⟩ : ∃ t, t = C.data.toList.take en := ⟨_, rfl⟩
              rw [← ht] at HX HTLEN HAT HEX HST
              clear ht HT HDONE hgo
              have HX1 : Hid (RowsAt k t acc acc 0 → True) := fun _ => trivial
              have h31 : Hid (acc.length ≤ 100001000000) := by rw [Hid]; have := HAL.out; omega
              have h31' := h31.out
              rcases HEXIT.out with rfl | ⟨j, rfl, hj, c32⟩
              · have HNIL : Hid (acc ++ rowsS k 0 t = acc) := rAt_end HST.out (by rw [HTLEN.out]; exact Nat.le_refl _)
                rw [HNIL.out] at HX
                go_wp2
                go_loopw [5, 11] (fun a5 a11 wq => v = a5 ∧ a11 = .int .i64 0 ∧ wr = wq) (fun _ _ _ => 0)
                case atStart => exact ⟨rfl, rfl, rfl⟩
                case round =>
                  obtain ⟨rfl, rfl, rfl⟩ := hrel
                  go_wp2
                  go_roundw
                  case rel => exact ⟨k + 1, acc, _, by omega, rfl, by simp, HB.out, HX.out, Nat.le_trans HAL.out (Nat.mul_le_mul_right _ (Nat.le_succ k)), HF.out⟩
                  case measure => simp [intOf]; omega
              · have e32 : ((C[j].toNat : Int) == 32) = false := neB (n := 32) c32
                have x32 : (C[j].toNat : Int) ≠ 32 := by simpa using e32
                clear c32
                go_wp2
                all_goals try (exfalso; omega)
                generalize Value.int IntKind.u8 (C[j].toNat : Int) = zz
                go_loopw [5, 11] (fun a5 a11 wq => ∃ (a : Nat) (out : List Rw) (v1 : Value), a ≤ j + 1 ∧ v1 = a5 ∧ a11 = .int .i64 (a : Int) ∧ Hid (RowsAt k t acc out a) ∧ Hid (out.length ≤ acc.length + a) ∧ Hid (RBuf 66 wq w1.heap.size v1 out) ∧ Hid (Fresh w1 wq)) (fun _ a11 _ => j + 1 - (intOf a11).toNat)
                case atStart => exact ⟨0, acc, v, by omega, rfl, by simp, HST.out, Nat.le_refl _, HB.out, HF.out⟩
                case round =>
                  obtain ⟨a, out, v1, ha, rfl, rfl, HRA, HOL, HQB, HQF⟩ := hrel
                  have hol : out.length ≤ 100002000000 := by have := HOL.out; omega
                  by_cases haj : a < j + 1
                  · have hac : a < C.size := by omega
                    have q0 := HEX.out a
                    have HB0 : Hid (t[a]? = some C[a]) := HAT.out a haj
                    by_cases c32 : C[a] = 32
                    · have f32 : ((C[a].toNat : Int) == 32) = true := eqB (n := 32) c32 (by omega)
                      have HN := Lib.hid (rAt_blank HRA.out (by rw [HB0.out, c32]))
                      clear c32
                      go_wp2
                      all_goals try (exfalso; omega)
                      go_roundw
                      case rel => exact ⟨a + 1, out, _, by omega, rfl, by simp, HN.out, Nat.le_succ_of_le HOL.out, HQB.out, HQF.out⟩
                      case measure => simp [intOf]; omega
                    · have f32 : ((C[a].toNat : Int) == 32) = false := neB (n := 32) c32
                      by_cases c45 : C[a] = 45
                      · have f45 : ((C[a].toNat : Int) == 45) = true := eqB (n := 45) c45 (by omega)
                        have y45 : (C[a].toNat : Int) = 45 := by simpa using f45
                        have HB1 : Hid (t[a]? = some 45) := by rw [Hid, HB0.out, c45]
                        by_cases hend : a = j
                        · subst hend
                          have HN := Lib.hid (rAt_dash HRA.out HB1.out (dash_end HB1.out HTLEN.out.symm))
                          have HCELL := Lib.hid (rnews 66 wr ⟨k, a, true, []⟩)
                          clear c32 c45
                          go_wp2_with (at_builtin; refine Hid.out ?_)
                          all_goals try (exfalso; omega)
                          refine Lib.hid ?_
                          refine wpList_append_lies _ rfl _ _ 62 rfl w1.heap.size 66 i0 (.agg #[.int .i64 0, .int .i64 0, .bool false, .string ⟨#[]⟩]) 4 40 Tryz.underlying62 hi hz0 hz1 hz2 rfl (by decide) v1 out.length (rcells out) rfl (World.ownsRow.alloc HQB.out _) ⟨wr.heap.size, 0, none⟩ 1 1 (rcell ⟨k, a, true, []⟩) rfl rfl HCELL.out (rcell_one _) (by decide) (by unfold maxLen; omega) (by omega) (by rw [World.size_alloc]; have := HQF.out.size; omega) (wr.heap.size + 1) (by simp) ?_
                          intro g cap w2 hown hgrow hat hlt2
                          have HT2 := Lib.hid (RBuf.more hown)
                          have HF2 := Lib.hid ((HQF.out.alloc (.cells #[.int .i64 (k : Int), .int .i64 (a : Int), .bool true, .string ⟨#[]⟩] 66)).grown hgrow (fun g e => (HQB.out.lt g e).1))
                          clear hown hgrow hat hlt2
                          go_wp2
                          go_roundw
                          case rel => exact ⟨a + 1, out ++ [Rw.mk k a true []], _, by omega, rfl, by simp, HN.out, by rw [Hid, List.length_append]; have := HOL.out; simp; omega, HT2.out, HF2.out⟩
                          case measure => simp [intOf]
                        · have hne : ((a : Int) == (j : Int)) = false := by rw [beq_eq_false_iff_ne]; omega
                          have hne' : (a : Int) ≠ (j : Int) := by omega
                          have ha1 : a + 1 < C.size := by omega
                          have HB2 : Hid (t[a + 1]? = some C[a + 1]) := HAT.out (a + 1) (by omega)
                          by_cases d32 : C[a + 1] = 32
                          · have g32 : ((C[a + 1].toNat : Int) == 32) = true := eqB (n := 32) d32 (by omega)
                            have y32 : (C[a + 1].toNat : Int) = 32 := by simpa using g32
                            have HN := Lib.hid (rAt_dash HRA.out HB1.out (dash_blank HB1.out (by rw [HB2.out, d32])))
                            have HCELL := Lib.hid (rnews 66 wr ⟨k, a, true, []⟩)
                            clear c32 c45 d32
                            go_wp2_with (at_builtin; refine Hid.out ?_)
                            all_goals try (exfalso; omega)
                            refine Lib.hid ?_
                            refine wpList_append_lies _ rfl _ _ 62 rfl w1.heap.size 66 i0 (.agg #[.int .i64 0, .int .i64 0, .bool false, .string ⟨#[]⟩]) 4 40 Tryz.underlying62 hi hz0 hz1 hz2 rfl (by decide) v1 out.length (rcells out) rfl (World.ownsRow.alloc HQB.out _) ⟨wr.heap.size, 0, none⟩ 1 1 (rcell ⟨k, a, true, []⟩) rfl rfl HCELL.out (rcell_one _) (by decide) (by unfold maxLen; omega) (by omega) (by rw [World.size_alloc]; have := HQF.out.size; omega) (wr.heap.size + 1) (by simp) ?_
                            intro g cap w2 hown hgrow hat hlt2
                            have HT2 := Lib.hid (RBuf.more hown)
                            have HF2 := Lib.hid ((HQF.out.alloc (.cells #[.int .i64 (k : Int), .int .i64 (a : Int), .bool true, .string ⟨#[]⟩] 66)).grown hgrow (fun g e => (HQB.out.lt g e).1))
                            clear hown hgrow hat hlt2
                            go_wp2
                            go_roundw
                            case rel => exact ⟨a + 1, out ++ [Rw.mk k a true []], _, by omega, rfl, by simp, HN.out, by rw [Hid, List.length_append]; have := HOL.out; simp; omega, HT2.out, HF2.out⟩
                            case measure => simp [intOf]; omega
                          · have g32 : ((C[a + 1].toNat : Int) == 32) = false := neB (n := 32) d32
                            have y32 : (C[a + 1].toNat : Int) ≠ 32 := by simpa using g32
                            have hn := rAt_text HRA.out HB1.out (by decide) (dash_word HB1.out HB2.out d32)
                            rw [HTLEN.out] at hn
                            obtain ⟨tx0, htx⟩ : ∃ tx0, tx0 = t.drop a := ⟨_, rfl⟩
                            rw [← htx] at hn q0
                            have HN := Lib.hid hn
                            have HCELL := Lib.hid (rnews 66 wr ⟨k, a, false, tx0⟩)
                            clear c32 c45 d32 hn htx
                            go_wp2_with (at_builtin; refine Hid.out ?_)
                            all_goals try (exfalso; omega)
                            refine Lib.hid ?_
                            refine wpList_append_lies _ rfl _ _ 62 rfl w1.heap.size 66 i0 (.agg #[.int .i64 0, .int .i64 0, .bool false, .string ⟨#[]⟩]) 4 40 Tryz.underlying62 hi hz0 hz1 hz2 rfl (by decide) v1 out.length (rcells out) rfl (World.ownsRow.alloc HQB.out _) ⟨wr.heap.size, 0, none⟩ 1 1 (rcell ⟨k, a, false, tx0⟩) rfl rfl HCELL.out (rcell_one _) (by decide) (by unfold maxLen; omega) (by omega) (by rw [World.size_alloc]; have := HQF.out.size; omega) (wr.heap.size + 1) (by simp) ?_
                            intro g cap w2 hown hgrow hat hlt2
                            have HT2 := Lib.hid (RBuf.more hown)
                            have HF2 := Lib.hid ((HQF.out.alloc (.cells #[.int .i64 (k : Int), .int .i64 (a : Int), .bool false, .string (tx tx0)] 66)).grown hgrow (fun g e => (HQB.out.lt g e).1))
                            clear hown hgrow hat hlt2
                            go_wp2
                            go_roundw
                            case rel => exact ⟨j + 1, out ++ [Rw.mk k a false tx0], _, by omega, rfl, by simp, HN.out, by rw [Hid, List.length_append]; have := HOL.out; simp; omega, HT2.out, HF2.out⟩
                            case measure => simp [intOf]; omega
                      · have f45 : ((C[a].toNat : Int) == 45) = false := neB (n := 45) c45
                        have y45 : (C[a].toNat : Int) ≠ 45 := by simpa using f45
                        have hn := rAt_text HRA.out HB0.out c32 (dash_other HB0.out c45)
                        rw [HTLEN.out] at hn
                        obtain ⟨tx0, htx⟩ : ∃ tx0, tx0 = t.drop a := ⟨_, rfl⟩
                        rw [← htx] at hn q0
                        have HN := Lib.hid hn
                        have HCELL := Lib.hid (rnews 66 wr ⟨k, a, false, tx0⟩)
                        clear c32 c45 hn htx
                        go_wp2_with (at_builtin; refine Hid.out ?_)
                        all_goals try (exfalso; omega)
                        refine Lib.hid ?_
                        refine wpList_append_lies _ rfl _ _ 62 rfl w1.heap.size 66 i0 (.agg #[.int .i64 0, .int .i64 0, .bool false, .string ⟨#[]⟩]) 4 40 Tryz.underlying62 hi hz0 hz1 hz2 rfl (by decide) v1 out.length (rcells out) rfl (World.ownsRow.alloc HQB.out _) ⟨wr.heap.size, 0, none⟩ 1 1 (rcell ⟨k, a, false, tx0⟩) rfl rfl HCELL.out (rcell_one _) (by decide) (by unfold maxLen; omega) (by omega) (by rw [World.size_alloc]; have := HQF.out.size; omega) (wr.heap.size + 1) (by simp) ?_
                        intro g cap w2 hown hgrow hat hlt2
                        have HT2 := Lib.hid (RBuf.more hown)
                        have HF2 := Lib.hid ((HQF.out.alloc (.cells #[.int .i64 (k : Int), .int .i64 (a : Int), .bool false, .string (tx tx0)] 66)).grown hgrow (fun g e => (HQB.out.lt g e).1))
                        clear hown hgrow hat hlt2
                        go_wp2
                        go_roundw
                        case rel => exact ⟨j + 1, out ++ [Rw.mk k a false tx0], _, by omega, rfl, by simp, HN.out, by rw [Hid, List.length_append]; have := HOL.out; simp; omega, HT2.out, HF2.out⟩
                        case measure => simp [intOf]; omega
                  · have hae : ¬ (a : Int) < (j : Int) + 1 := by omega
                    have HX2 : Hid (R = cutA V (k + 1) (L.drop (k + 1)) out) := by
                      have h := rAt_end HRA.out (by rw [HTLEN.out]; omega)
                      rw [Hid, HX.out, h]
                    go_wp2
                    all_goals try (exfalso; omega)
                    go_roundw
                    case rel => exact ⟨k + 1, out, _, by omega, rfl, by simp, HQB.out, HX2.out, by have h1 := HOL.out; have h2 := HAL.out; have h3 : (k + 1) * 1000000 = k * 1000000 + 1000000 := (by rw [Nat.add_mul]); exact Nat.le_trans h1 (by rw [h3]; omega), HQF.out⟩
                    case measure => simp [intOf]; omega
    · have hx : L.drop k = [] := List.drop_eq_nil_of_le (by omega)
      have HX : Hid (R = (acc, 0, 0)) := by rw [Hid, HR.out, hx, cutA]
      have hge : ¬ (k : Int) < (L.length : Int) := by omega
      clear hx
      go_wp2
      go_ret3
      exact ⟨_, w1.heap.size, by rw [HX.out]; rfl, HF1.out.size, by rw [HX.out]; exact HB.out, HF1.out.trans HF.out⟩
end Go.Proofs.YthhdadfnkdjmkaaGreatDoor
namespace Go.Proofs.YthhdadfnkdjmkaaGreatDoor
open Go.ChangeShapes Go.WideShapes Go.ChangeAt Go.RowKit
attribute [local go_sem ↓] Go.wp_at_zero Go.wp_at_succ
variable {w : World}

theorem cut_one : cutL V [45, 32, 97, 58, 32, 49, 32, 35, 32, 120] = ([⟨0, 0, true, []⟩, ⟨0, 2, false, [97, 58, 32, 49]⟩], 0, 0) := by kernel_rfl
set_option maxRecDepth 100000 in
set_option maxHeartbeats 1000000 in
theorem lawake_any (w : World) (hT : Tabs w) : Calls Tryz.prog 20 #[] w fun e w' => e = .returned (.bool true) ∧ Fresh w w' := by
  have h0 := cutM_any [45, 32, 97, 58, 32, 49, 32, 35, 32, 120] w (by decide) hT
  rw [cut_one] at h0
  have HL2 : Hid (Calls Tryz.prog 24 #[.string ⟨#[45, 32, 97, 58, 32, 49, 32, 35, 32, 120]⟩] w (CutIs w ([⟨0, 0, true, []⟩, ⟨0, 2, false, [97, 58, 32, 49]⟩], 0, 0))) := h0
  have HT := Lib.hid hT
  clear h0 hT
  go_enter Tryz.func20, Tryz.ntmps20
  go_wp2_with fail
  refine HL2.out.mono ?_
  rintro e w1 ⟨v, rfl, hb, hf1⟩
  have HF1 := Lib.hid hf1
  obtain ⟨g, cap, rfl⟩ := ownsRow_succ (k := 1) hb
  have HB := Lib.hid hb
  clear hf1 hb
  go_wp2_with fail
  refine (awake_any _ (HT.out.move HF1.out)).mono ?_
  rintro e w2 ⟨rfl, hf2⟩
  have HF2 := Lib.hid (HF1.out.trans hf2)
  have hb := HB.out.fresh hf2
  have c0 : w2.cell? ⟨g, 0, none⟩ = some (.int .i64 0) := hb.cell 0 (by decide) 0 (by decide) rfl
  have c1 : w2.cell? ⟨g, 1, none⟩ = some (.int .i64 0) := hb.cell 0 (by decide) 1 (by decide) rfl
  have c2 : w2.cell? ⟨g, 2, none⟩ = some (.bool true) := hb.cell 0 (by decide) 2 (by decide) rfl
  have c3 : w2.cell? ⟨g, 3, none⟩ = some (.string ⟨#[]⟩) := hb.cell 0 (by decide) 3 (by decide) rfl
  have c4 : w2.cell? ⟨g, 4, none⟩ = some (.int .i64 0) := hb.cell 1 (by decide) 0 (by decide) rfl
  have c5 : w2.cell? ⟨g, 5, none⟩ = some (.int .i64 2) := hb.cell 1 (by decide) 1 (by decide) rfl
  have c6 : w2.cell? ⟨g, 6, none⟩ = some (.bool false) := hb.cell 1 (by decide) 2 (by decide) rfl
  have c7 : w2.cell? ⟨g, 7, none⟩ = some (.string ⟨#[97, 58, 32, 49]⟩) := hb.cell 1 (by decide) 3 (by decide) rfl
  clear hf2 hb
  go_wp2
  go_ret
  exact ⟨rfl, HF2.out⟩
end Go.Proofs.YthhdadfnkdjmkaaGreatDoor
namespace Go.Proofs.YthhdadfnkdjmkaaGreatDoor.y
open Go.ChangeShapes Go.WideShapes Go.ChangeAt Go.RowKit
attribute [local go_sem ↓] Go.wp_at_zero Go.wp_at_succ
variable {w : World}
abbrev oneL : List v.M := [v.M.ofInt 1]
theorem one_at (W : World) : (v.M.ofInt 1).At W := v.at_flat W (by decide)
/-- A list of one. -/
theorem row_one (W : World) (g : Nat) (h : W.heap[g]? = some (.cells #[.int .i64 2, .bool false, .int .i64 1, .string ⟨#[]⟩, .slice none 0 0, .slice none 0 0] 27 (0, 0))) :
    Calls Tryz.prog 22 #[.slice (some ⟨g, 0, none⟩) 1 1] W fun e w' => (∃ a c', e = .returned (.agg #[.int .i64 4, .bool false, .int .i64 0, .string ⟨#[]⟩, .slice a 1 c', .slice none 0 0]) ∧ v.RowAt w' a (v.mcells oneL)) ∧ Fresh W w' :=
  (v.row_any oneL g 1 W (.inr ⟨g, rfl, fun j x hj => cell_of_at h (by simpa [v.mcells, v.M.cells, v.M.ofInt] using hj)⟩) (by decide) (by decide)).mono fun e w' k => k
abbrev rowM (a : Option Addr) (c : Nat) : v.M := .mk 4 false 0 ⟨#[]⟩ a c oneL none 0 []
abbrev mapM (a : Option Addr) (c : Nat) (a2 : Option Addr) (c2 : Nat) : v.M := .mk 5 false 0 ⟨#[]⟩ none 0 [] a2 c2 [(tx [97], rowM a c)]
theorem map_one (W : World) (g c : Nat) (a : Option Addr) (h : W.heap[g]? = some (.cells #[.string ⟨#[97]⟩, .int .i64 4, .bool false, .int .i64 0, .string ⟨#[]⟩, .slice a 1 c, .slice none 0 0] 54 (0, 0))) :
    Calls Tryz.prog 21 #[.slice (some ⟨g, 0, none⟩) 1 1] W fun e w' => (∃ a2 c2, e = .returned (.agg #[.int .i64 5, .bool false, .int .i64 0, .string ⟨#[]⟩, .slice none 0 0, .slice a2 1 c2]) ∧ v.RowAt w' a2 (v.pcells [(tx [97], rowM a c)])) ∧ Fresh W w' :=
  (v.map_any [(tx [97], rowM a c)] g 1 W (.inr ⟨g, rfl, fun j x hj => cell_of_at h (by simpa [v.pcells, v.pcellsOf, v.M.cells, tx] using hj)⟩) (by simp) (by simp)).mono fun e w' k => k
theorem mapM_plain (a : Option Addr) (c : Nat) (a2 : Option Addr) (c2 : Nat) : (mapM a c a2 c2).plain = exV := by
  simp [v.M.plain, v.plainL, v.plainK, v.M.ofInt, exV, vKeys, dNest, vList, vInt]
theorem exV_size : exV.size ≤ 1000000 := by
  simp [exV, vKeys, dNest, vList, vInt, v.V.size, v.sizeL, v.sizeK]
theorem same_one (m : v.M) (W : World) (a : Option Addr) (c : Nat) (a2 : Option Addr) (c2 : Nat) (hm : m.At W) (hp : m.plain = exV) (h1 : v.RowAt W a (v.mcells oneL)) (h2 : v.RowAt W a2 (v.pcells [(tx [97], rowM a c)])) :
    Calls Tryz.prog 15 #[m.val, .agg #[.int .i64 5, .bool false, .int .i64 0, .string ⟨#[]⟩, .slice none 0 0, .slice a2 1 c2]] W fun e w' => e = .returned (.bool true) ∧ Fresh W w' := by
  have hr : (rowM a c).At W := .mk (by decide) h1 (.nil W) (by simp) (by simp) (fun _ h => by cases h) (fun m hm => by rw [List.mem_singleton] at hm; subst hm; exact one_at W) (fun _ h => by cases h)
  have hx : (mapM a c a2 c2).At W := .mk (by decide) (.nil W) h2 (by simp) (by simp) (fun p h => by rw [List.mem_singleton] at h; subst h; exact (show (tx [97]).size ≤ 1000000 from by decide)) (fun _ h => by cases h) (fun p h => by rw [List.mem_singleton] at h; subst h; exact hr)
  have k := v.same_any m (mapM a c a2 c2) W hm hx (by rw [hp]; exact exV_size)
  rw [hp, mapM_plain, v.V.same_refl] at k
  exact k
/-- What the law parses. -/
theorem parse_exV (w : World) (hE : Env w) : Calls Tryz.prog 7 #[.string ⟨#[97, 58, 10, 32, 32, 45, 32, 49, 10]⟩] w fun e w' => (∃ m : v.M, e = .returned (.tuple #[m.val, .agg #[.int .i64 0, .int .i64 0]]) ∧ m.plain = exV ∧ m.New w.heap.size w') ∧ Fresh w w' := by
  have k := parse_any exL w (by decide) hE
  rw [parse_ex] at k
  exact k
/-- Two boxes: a value's, a mistake's. -/
structure Two (w1 w0 : World) (m : v.M) (g : Nat) (c : Int) : Prop where
  vb : w0.heap[g]? = some (.cells m.cells.toArray 27 (0, 0))
  mb : w0.heap[g + 1]? = some (.cells #[.int .i64 0, .int .i64 c] 30 (0, 0))
  fr : Fresh w1 w0
theorem two_new (w1 : World) (m : v.M) (c : Int) : Two w1 ((w1.alloc (.cells m.cells.toArray 27 (0, 0))).alloc (.cells #[.int .i64 0, .int .i64 c] 30 (0, 0))) m w1.heap.size c :=
  ⟨v.at_alloc (v.at_new w1 _), by have := v.at_new (w1.alloc (.cells m.cells.toArray 27 (0, 0))) (.cells #[.int .i64 0, .int .i64 c] 30 (0, 0)); rwa [World.size_alloc] at this, ((Fresh.refl w1).alloc _).alloc _⟩
set_option maxRecDepth 100000 in
set_option maxHeartbeats 2000000 in
theorem awake_any (w : World) (hE : Env w) : Calls Tryz.prog 6 #[] w fun e w' => e = .returned (.bool true) ∧ Fresh w w' := by
  have HP := Lib.hid (parse_exV w hE)
  have HE := Lib.hid hE
  have HA1 : Hid (∀ W, Fresh w W → Calls Tryz.prog 18 #[] W fun e w' => e = .returned (.bool true) ∧ Fresh W w') := fun W f => v.awake_any W (hE.move f).tabs
  have HA2 : Hid (∀ W, Fresh w W → Calls Tryz.prog 19 #[] W fun e w' => e = .returned (.bool true) ∧ Fresh W w') := fun W f => jawake_any W (hE.move f).tabs (hE.move f).rng
  have HA3 : Hid (∀ W, Fresh w W → Calls Tryz.prog 20 #[] W fun e w' => e = .returned (.bool true) ∧ Fresh W w') := fun W f => lawake_any W (hE.move f).tabs
  have HA4 : Hid (∀ W : World, Calls Tryz.prog 23 #[.int .i64 1] W fun e w' => e = .returned (.agg #[.int .i64 2, .bool false, .int .i64 1, .string ⟨#[]⟩, .slice none 0 0, .slice none 0 0]) ∧ Fresh W w') := fun W => v.whole_any 1 W
  clear hE
  go_enter Tryz.func6, Tryz.ntmps6
  go_wp2_with fail
  refine HP.out.mono ?_
  rintro e w1 ⟨⟨m, rfl, hp, hn⟩, hf1⟩
  have HPL := Lib.hid hp
  have HNW := Lib.hid hn
  have HF1 := Lib.hid hf1
  clear hp hn hf1
  obtain ⟨mk, mf, mn, ms, mla, mlc, ml, mka, mkc, mks⟩ := m
  dsimp only [v.M.val]
  have HTW : Hid (Two w1 ((w1.alloc (.cells #[.int .i64 mk, .bool mf, .int .i64 mn, .string ms, .slice mla ml.length mlc, .slice mka mks.length mkc] 27 (0, 0))).alloc (.cells #[.int .i64 0, .int .i64 0] 30 (0, 0))) (.mk mk mf mn ms mla mlc ml mka mkc mks) w1.heap.size 0) := two_new w1 (.mk mk mf mn ms mla mlc ml mka mkc mks) 0
  go_wp2_with fail
  generalize (w1.alloc (.cells #[.int .i64 mk, .bool mf, .int .i64 mn, .string ms, .slice mla ml.length mlc, .slice mka mks.length mkc] 27 (0, 0))).alloc (.cells #[.int .i64 0, .int .i64 0] 30 (0, 0)) = w0 at *
  generalize w1.heap.size = g at *
  have HKP : Hid (∀ W : World, Fresh w0 W → (W.cell? ⟨g, 0, none⟩ = some (.int .i64 mk) ∧ W.cell? ⟨g, 1, none⟩ = some (.bool mf) ∧ W.cell? ⟨g, 2, none⟩ = some (.int .i64 mn) ∧ W.cell? ⟨g, 3, none⟩ = some (.string ms) ∧ W.cell? ⟨g, 4, none⟩ = some (.slice mla ml.length mlc) ∧ W.cell? ⟨g, 5, none⟩ = some (.slice mka mks.length mkc) ∧ W.cell? ⟨g + 1, 0, none⟩ = some (.int .i64 0) ∧ W.cell? ⟨g + 1, 1, none⟩ = some (.int .i64 0))) := fun W f => by
    have h1 := v.Fresh.at f HTW.out.vb
    have h2 := v.Fresh.at f HTW.out.mb
    exact ⟨cell_of_at h1 rfl, cell_of_at h1 rfl, cell_of_at h1 rfl, cell_of_at h1 rfl, cell_of_at h1 rfl, cell_of_at h1 rfl, cell_of_at h2 rfl, cell_of_at h2 rfl⟩
  obtain ⟨k0, k1, k2, k3, k4, k5, k6, k7⟩ := HKP.out w0 (.refl _)
  have HK0 : Hid (Fresh w0 w0.drew) := (Fresh.refl w0).drew
  have HW0 : Hid (Fresh w w0) := HF1.out.trans HTW.out.fr
  have HSM : Hid (∀ (W : World) (a : Option Addr) (c : Nat) (a2 : Option Addr) (c2 : Nat), Fresh w1 W → v.RowAt W a (v.mcells oneL) → v.RowAt W a2 (v.pcells [(tx [97], rowM a c)]) → Calls Tryz.prog 15 #[v.mval mk mf mn ms mla ml.length mlc mka mks.length mkc, .agg #[.int .i64 5, .bool false, .int .i64 0, .string ⟨#[]⟩, .slice none 0 0, .slice a2 1 c2]] W fun e w' => e = .returned (.bool true) ∧ Fresh W w') :=
    fun W a c a2 c2 f h1 h2 => same_one (.mk mk mf mn ms mla mlc ml mka mkc mks) W a c a2 c2 (HNW.out.move f).at HPL.out h1 h2
  have HF10 : Hid (Fresh w1 w0) := HTW.out.fr
  clear HTW
  go_region_held3 (fun w' => (w'.cell? ⟨g, 0, none⟩ = some (.int .i64 mk) ∧ w'.cell? ⟨g, 1, none⟩ = some (.bool mf) ∧ w'.cell? ⟨g, 2, none⟩ = some (.int .i64 mn) ∧ w'.cell? ⟨g, 3, none⟩ = some (.string ms) ∧ w'.cell? ⟨g, 4, none⟩ = some (.slice mla ml.length mlc) ∧ w'.cell? ⟨g, 5, none⟩ = some (.slice mka mks.length mkc) ∧ w'.cell? ⟨g + 1, 0, none⟩ = some (.int .i64 0) ∧ w'.cell? ⟨g + 1, 1, none⟩ = some (.int .i64 0))) (go_keep)
    (first
      | (go_at_call 18; (with_reducible refine (HA1.out _ HW0.out.drew).mono ?_); rintro e W1 ⟨rfl, hf⟩; obtain ⟨k0, k1, k2, k3, k4, k5, k6, k7⟩ := HKP.out W1 (HK0.out.trans hf); have HK1 := Lib.hid (HK0.out.trans hf); clear hf)
      | (go_at_call 19; (with_reducible refine (HA2.out _ (HW0.out.trans HK1.out)).mono ?_); rintro e W2 ⟨rfl, hf⟩; obtain ⟨k0, k1, k2, k3, k4, k5, k6, k7⟩ := HKP.out W2 (HK1.out.trans hf); have HK2 := Lib.hid (HK1.out.trans hf); clear hf)
      | (go_at_call 20; (with_reducible refine (HA3.out _ (HW0.out.trans HK2.out)).mono ?_); rintro e W3 ⟨rfl, hf⟩; obtain ⟨k0, k1, k2, k3, k4, k5, k6, k7⟩ := HKP.out W3 (HK2.out.trans hf); have HK3 := Lib.hid (HK2.out.trans hf); clear hf)
      | (go_at_call 23; (with_reducible refine (HA4.out _).mono ?_); rintro e W4 ⟨rfl, hf⟩; obtain ⟨k0, k1, k2, k3, k4, k5, k6, k7⟩ := HKP.out W4 (HK3.out.trans hf); have HK4 := Lib.hid (HK3.out.trans hf); clear hf)
      | (go_at_call 22; (with_reducible refine (row_one _ _ (v.at_new W4 _)).mono ?_); rintro e W5 ⟨⟨a, c, rfl, hr⟩, hf⟩; obtain ⟨k0, k1, k2, k3, k4, k5, k6, k7⟩ := HKP.out W5 ((HK4.out.alloc _).trans hf); have HK5 := Lib.hid ((HK4.out.alloc _).trans hf); have HR5 := Lib.hid hr; clear hr; clear hf)
      | (go_at_call 21; (with_reducible refine (map_one _ _ _ _ (v.at_new W5 _)).mono ?_); rintro e W6 ⟨⟨a2, c2, rfl, hr2⟩, hf⟩; obtain ⟨k0, k1, k2, k3, k4, k5, k6, k7⟩ := HKP.out W6 ((HK5.out.alloc _).trans hf); have HK6 := Lib.hid ((HK5.out.alloc _).trans hf); have HR6 := Lib.hid hr2; clear hr2; have HR56 := Lib.hid (HR5.out.move (((Fresh.refl _).alloc _).trans hf)); clear hf)
      | (go_at_call 15; (with_reducible refine (HSM.out _ a c a2 c2 (HF10.out.trans HK6.out) HR56.out HR6.out).mono ?_); rintro e W7 ⟨rfl, hf⟩; obtain ⟨k0, k1, k2, k3, k4, k5, k6, k7⟩ := HKP.out W7 (HK6.out.trans hf); have HK7 := Lib.hid (HK6.out.trans hf); clear hf))
  go_wp2
  go_ret
  exact ⟨rfl, HW0.out.trans HK7.out⟩
end Go.Proofs.YthhdadfnkdjmkaaGreatDoor.y
namespace Go.Proofs.YthhdadfnkdjmkaaGreatDoor.y
open Go.ChangeShapes Go.WideShapes Go.ChangeAt Go.RowKit Go.Shelf
open Go.ChangeMaps (open_string shut_string)

theorem lown : ownKnob Tryz.prog.godebug = none := by kernel_rfl
theorem first_eq : Rows.laid_unicode_utf8_first = Lib.firstData := by kernel_rfl
theorem accept_eq : (Rows.laid_unicode_utf8_acceptRanges : DataW Unit) = Lib.acceptData := by kernel_rfl
theorem u8types : U8Types Tryz.prog Tryz.laysValid_ren := U8Types.of196 Tryz.laysValid
theorem gR : Tryz.prog.globalNamed "strconv.ErrRange" = some 4 := by kernel_rfl
theorem gRType : (Tryz.prog.globals[4]?).map (·.type) = some 173 := by kernel_rfl
theorem cellsE : Tryz.prog.cellsOf 217 = 1 := by kernel_rfl
theorem cells9 : Tryz.prog.cellsOf 9 = 1 := by kernel_rfl
theorem star : "*" ++ "errors.errorString" = "*errors.errorString" := by decide
theorem rowE (u : TypeId) (h : Tryz.prog.typeName? 3 u = some "*errors.errorString") : u = 215 :=
  typeName_ptr_named (nm := "errors.errorString") (by rw [star]; kernel_rfl) (by kernel_rfl) (by decide) u (by rw [star]; exact h)
abbrev theLaid : List (String × DataW Unit) := [("math/bits.deBruijn32tab", Rows.laid_math_bits_deBruijn32tab), ("math/bits.deBruijn64tab", Rows.laid_math_bits_deBruijn64tab), ("internal/strconv.uint64pow10", Rows.laid_internal_strconv_uint64pow10), ("unicode/utf8.acceptRanges", Rows.laid_unicode_utf8_acceptRanges), ("strconv.ErrRange", Rows.laid_strconv_ErrRange), ("strconv.ErrSyntax", Rows.laid_strconv_ErrSyntax), ("unicode/utf8.first", Rows.laid_unicode_utf8_first)]
theorem utf8_tabs {W : World} (hL : laidMet Tryz.prog theLaid W) : Tabs W :=
  utf8Tabs_of_readsT u8types ⟨by kernel_rfl, by kernel_rfl, by kernel_rfl, by kernel_rfl, by kernel_rfl, by kernel_rfl, by kernel_rfl⟩
    (by rw [← first_eq]; exact Lib.laidMet.reads hL (.tail _ (.tail _ (.tail _ (.tail _ (.tail _ (.tail _ (.head _))))))))
    (by rw [← accept_eq]; exact Lib.laidMet.reads hL (.tail _ (.tail _ (.tail _ (.head _)))))
theorem range_var {W : World} (hL : laidMet Tryz.prog theLaid W) : RangeVar W := by
  obtain ⟨a, s, hv, _⟩ := laid_sentinel hL.tail.tail.tail.tail gR gRType Tryz.underlying173 rowE Tryz.underlying215 Tryz.underlying217 rfl rfl Tryz.underlying9 cellsE cells9
  exact ⟨_, _, hv⟩
theorem max_cell {W : World} (h : W.ShapedOpen Tryz.prog) : ∃ m : Int, W.cell? ⟨Tryz.laysCut_ren.g 1, 0, none⟩ = some (.int .i64 m) :=
  Go.Proofs.cell_of_shapedOpen_int (zero := #[.int .i64 0]) (t := 3) h (of_decide_eq_true (by kernel_rfl)) (by kernel_rfl) rfl (by kernel_rfl) (by kernel_rfl) Tryz.underlying3
theorem the_env {W : World} (hL : laidMet Tryz.prog theLaid W) (h : W.ShapedOpen Tryz.prog) : Env W := ⟨utf8_tabs hL, range_var hL, max_cell h⟩
def putCells (h : Array Obj) (g : Nat) (cs : Array Value) : Array Obj := h.modify g fun o => match o with
  | .cells _ t frozen => .cells cs t frozen
  | o => o
noncomputable def low : Nat := (World.holding Tryz.prog default ⟨#[], #[], []⟩).heap.size
def ints (k : IntKind) : DataW Unit → Array Value
  | .agg l => (l.map fun d => match d with | .lit (.int _ n) => Value.int k n | _ => Value.int k 0).toArray
  | _ => #[]
/-- The witness: the settled world, all listed variables as their text lays them. -/
noncomputable def laidWorld (os : Os) : World :=
  let w0 := World.holding Tryz.prog os ⟨#[.cells #[.string ⟨#[105, 110, 118, 97, 108, 105, 100, 32, 115, 121, 110, 116, 97, 120]⟩] 217, .cells #[.string ⟨#[118, 97, 108, 117, 101, 32, 111, 117, 116, 32, 111, 102, 32, 114, 97, 110, 103, 101]⟩] 217], #[], []⟩
  { w0 with heap := putCells (putCells (putCells (putCells (putCells (putCells (putCells w0.heap 3 #[.iface 215 (.pointer (some ⟨low, 0, none⟩))]) 4 #[.iface 215 (.pointer (some ⟨low + 1, 0, none⟩))])
      0 (Lib.firstTab.map fun z => Value.int .u8 z).toArray) 1 ((List.range 16).flatMap fun i => [Value.int .u8 (Lib.accLo i), Value.int .u8 (Lib.accHi i)]).toArray)
      5 (ints .u64 Rows.laid_internal_strconv_uint64pow10)) 6 (ints .u8 Rows.laid_math_bits_deBruijn32tab)) 7 (ints .u8 Rows.laid_math_bits_deBruijn64tab) }
theorem laid_met (os : Os) (args : Array Value) : laidMet Tryz.prog theLaid ((laidWorld os).forCall (fun _ _ => 0) ⟨#[], args, []⟩).memory :=
  (LaidIn.of_run (l := theLaid) [6, 7, 5, 1, 4, low + 1, 3, low, 0] 8 (by kernel_rfl) (by kernel_rfl) (by kernel_rfl) (by kernel_rfl)).met
end Go.Proofs.YthhdadfnkdjmkaaGreatDoor.y
