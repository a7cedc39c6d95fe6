/-
  The document's Utf8 (of layer 5): whether a text is valid UTF-8.
  What is wrong with a text, by the document.
  What is wrong with a container, by the document.
-/
import Derived.Test.YtldncgelghcjeaaGreatDoorCat15
import Derived.Test.YtldncgelghcjeaaGreatDoorCat02
import Derived.Test.YtldncgelghcjeaaGreatDoorCat11
import Derived.Deep.DrawnRows
set_option linter.unusedSimpArgs false
set_option linter.unusedVariables false
namespace Go.Proofs.YtldncgelghcjeaaGreatDoor
open Go.ChangeShapes Go.WideShapes Go.ChangeAt Go.RowKit
variable {w : World}

set_option maxRecDepth 100000 in
set_option maxHeartbeats 1000000 in
theorem utf8_any (s : ByteArray) (w : World) (hs : s.size ≤ 1048576) : Calls Tryz.prog 162 #[.string s] w fun e w' => e = .returned (.bool (Lib.validD s.data.toList)) ∧ w = w' := by
  go_enter Tryz.func162, Tryz.ntmps162
  go_wp2
  go_loop [3] (fun i => ∃ k : Nat, k ≤ s.size + 3 ∧ i = .int .i64 k ∧ Hid (Lib.validD s.data.toList = Lib.validD (s.data.toList.drop k))) (fun i => s.size + 4 - (intOf i).toNat)
  case atStart => exact ⟨0, by omega, rfl, rfl⟩
  case round =>
    obtain ⟨i, hi, rfl, HI⟩ := hrel
    by_cases hlt : i < s.size
    · have hcb : (s[i].toNat : Int) ≤ 255 := by have := s[i].toNat_lt; omega
      go_upto_block 2 with (fail)
      go_cut [0, 3, 5, 6, 7] (fun a0 a3 a5 a6 a7 wc => a0 = .string s ∧ a3 = .int .i64 i ∧ wc = w ∧ ∃ n lo hi : Nat, n ≤ 3 ∧ lo ≤ 255 ∧ hi ≤ 255 ∧ a5 = .int .u8 lo ∧ a6 = .int .u8 hi ∧ a7 = .int .i64 n ∧ Hid (Lead s i n lo hi))
      case first =>
        by_cases c0 : s[i].toNat < 128
        · have HL := Lib.hid (lead_ascii s i hlt c0)
          have hc : (s[i].toNat : Int) < 128 := by omega
          clear c0
          go_wp2
          go_meet
          case rel => exact ⟨rfl, rfl, rfl, 0, 128, 191, by omega, by omega, by omega, rfl, rfl, rfl, HL.out⟩
        have h0 : ¬ (s[i].toNat : Int) < 128 := by omega
        by_cases c1 : s[i].toNat < 194
        · have HL := Lib.hid (lead_bad s i hlt (by omega) (by simp [Lib.firstT, c0, c1]))
          have e1 : ¬ (194 : Int) ≤ (s[i].toNat : Int) := by omega
          have e2 : ¬ (224 : Int) ≤ (s[i].toNat : Int) := by omega
          have e3 : ¬ (240 : Int) ≤ (s[i].toNat : Int) := by omega
          clear c0 c1
          go_wp2
          go_ret
          exact ⟨ret_bool (by rw [HI.out, HL.out]), rfl⟩
        have h1 : (194 : Int) ≤ (s[i].toNat : Int) := by omega
        by_cases c2 : s[i].toNat < 224
        · have HL := Lib.hid (lead_of s i 1 128 191 hlt (by omega) (by omega) (by simp [Lib.firstT, c0, c1, c2]) (by simp [Lib.firstT, Lib.accLo, c0, c1, c2]) (by simp [Lib.firstT, Lib.accHi, c0, c1, c2]))
          have e1 : (s[i].toNat : Int) ≤ 223 := by omega
          clear c0 c1 c2
          go_wp2
          go_meet
          case rel => exact ⟨rfl, rfl, rfl, 1, 128, 191, by omega, by omega, by omega, rfl, rfl, rfl, HL.out⟩
        have h2 : ¬ (s[i].toNat : Int) ≤ 223 := by omega
        have h3 : (224 : Int) ≤ (s[i].toNat : Int) := by omega
        by_cases c3 : s[i].toNat = 224
        · have HL := Lib.hid (lead_of s i 2 160 191 hlt (by omega) (by omega) (by rw [c3]; decide) (by rw [c3]; decide) (by rw [c3]; decide))
          have e1 : (s[i].toNat : Int) ≤ 239 := by omega
          have e2 : ((s[i].toNat : Int) == 224) = true := by simp; omega
          have e3 : ((s[i].toNat : Int) == 237) = false := by simp; omega
          clear c0 c1 c2 c3
          go_wp2
          go_meet
          case rel => exact ⟨rfl, rfl, rfl, 2, 160, 191, by omega, by omega, by omega, rfl, rfl, rfl, HL.out⟩
        have h4 : ((s[i].toNat : Int) == 224) = false := by simp; omega
        by_cases c4 : s[i].toNat < 237
        · have HL := Lib.hid (lead_of s i 2 128 191 hlt (by omega) (by omega) (by simp [Lib.firstT, c0, c1, c2, c3, c4]) (by simp [Lib.firstT, Lib.accLo, c0, c1, c2, c3, c4]) (by simp [Lib.firstT, Lib.accHi, c0, c1, c2, c3, c4]))
          have e1 : (s[i].toNat : Int) ≤ 239 := by omega
          have e3 : ((s[i].toNat : Int) == 237) = false := by simp; omega
          clear c0 c1 c2 c3 c4
          go_wp2
          go_meet
          case rel => exact ⟨rfl, rfl, rfl, 2, 128, 191, by omega, by omega, by omega, rfl, rfl, rfl, HL.out⟩
        by_cases c5 : s[i].toNat = 237
        · have HL := Lib.hid (lead_of s i 2 128 159 hlt (by omega) (by omega) (by rw [c5]; decide) (by rw [c5]; decide) (by rw [c5]; decide))
          have e1 : (s[i].toNat : Int) ≤ 239 := by omega
          have e3 : ((s[i].toNat : Int) == 237) = true := by simp; omega
          clear c0 c1 c2 c3 c4 c5
          go_wp2
          go_meet
          case rel => exact ⟨rfl, rfl, rfl, 2, 128, 159, by omega, by omega, by omega, rfl, rfl, rfl, HL.out⟩
        have h5 : ((s[i].toNat : Int) == 237) = false := by simp; omega
        by_cases c6 : s[i].toNat < 240
        · have HL := Lib.hid (lead_of s i 2 128 191 hlt (by omega) (by omega) (by simp [Lib.firstT, c0, c1, c2, c3, c4, c5, c6]) (by simp [Lib.firstT, Lib.accLo, c0, c1, c2, c3, c4, c5, c6]) (by simp [Lib.firstT, Lib.accHi, c0, c1, c2, c3, c4, c5, c6]))
          have e1 : (s[i].toNat : Int) ≤ 239 := by omega
          clear c0 c1 c2 c3 c4 c5 c6
          go_wp2
          go_meet
          case rel => exact ⟨rfl, rfl, rfl, 2, 128, 191, by omega, by omega, by omega, rfl, rfl, rfl, HL.out⟩
        have h6 : ¬ (s[i].toNat : Int) ≤ 239 := by omega
        have h7 : (240 : Int) ≤ (s[i].toNat : Int) := by omega
        by_cases c7 : s[i].toNat = 240
        · have HL := Lib.hid (lead_of s i 3 144 191 hlt (by omega) (by omega) (by rw [c7]; decide) (by rw [c7]; decide) (by rw [c7]; decide))
          have e1 : (s[i].toNat : Int) ≤ 244 := by omega
          have e2 : ((s[i].toNat : Int) == 240) = true := by simp; omega
          have e3 : ((s[i].toNat : Int) == 244) = false := by simp; omega
          clear c0 c1 c2 c3 c4 c5 c6 c7
          go_wp2
          go_meet
          case rel => exact ⟨rfl, rfl, rfl, 3, 144, 191, by omega, by omega, by omega, rfl, rfl, rfl, HL.out⟩
        have h8 : ((s[i].toNat : Int) == 240) = false := by simp; omega
        by_cases c8 : s[i].toNat < 244
        · have HL := Lib.hid (lead_of s i 3 128 191 hlt (by omega) (by omega) (by simp [Lib.firstT, c0, c1, c2, c3, c4, c5, c6, c7, c8]) (by simp [Lib.firstT, Lib.accLo, c0, c1, c2, c3, c4, c5, c6, c7, c8]) (by simp [Lib.firstT, Lib.accHi, c0, c1, c2, c3, c4, c5, c6, c7, c8]))
          have e1 : (s[i].toNat : Int) ≤ 244 := by omega
          have e3 : ((s[i].toNat : Int) == 244) = false := by simp; omega
          clear c0 c1 c2 c3 c4 c5 c6 c7 c8
          go_wp2
          go_meet
          case rel => exact ⟨rfl, rfl, rfl, 3, 128, 191, by omega, by omega, by omega, rfl, rfl, rfl, HL.out⟩
        by_cases c9 : s[i].toNat = 244
        · have HL := Lib.hid (lead_of s i 3 128 143 hlt (by omega) (by omega) (by rw [c9]; decide) (by rw [c9]; decide) (by rw [c9]; decide))
          have e1 : (s[i].toNat : Int) ≤ 244 := by omega
          have e3 : ((s[i].toNat : Int) == 244) = true := by simp; omega
          clear c0 c1 c2 c3 c4 c5 c6 c7 c8 c9
          go_wp2
          go_meet
          case rel => exact ⟨rfl, rfl, rfl, 3, 128, 143, by omega, by omega, by omega, rfl, rfl, rfl, HL.out⟩
        · have HL := Lib.hid (lead_bad s i hlt (by omega) (by simp [Lib.firstT, c0, c1, c2, c3, c4, c5, c6, c7, c8, c9]))
          have e1 : ¬ (s[i].toNat : Int) ≤ 244 := by omega
          clear c0 c1 c2 c3 c4 c5 c6 c7 c8 c9
          go_wp2
          go_ret
          exact ⟨ret_bool (by rw [HI.out, HL.out]), rfl⟩
      case rest =>
        obtain ⟨rfl, rfl, rfl, n, lo, hi', hn, hlo, hhi, rfl, rfl, rfl, HL⟩ := hcut
        go_wp2
        go_loop [5, 6, 8] (fun a5 a6 a8 => ∃ k lo' hi'' : Nat, 1 ≤ k ∧ k ≤ n + 1 ∧ lo' ≤ 255 ∧ hi'' ≤ 255 ∧ a5 = .int .u8 lo' ∧ a6 = .int .u8 hi'' ∧ a8 = .int .i64 k ∧ Hid (Cont s i n lo hi' k lo' hi'')) (fun _ _ a8 => 5 - (intOf a8).toNat)
        case atStart => exact ⟨1, lo, hi', by omega, by omega, hlo, hhi, rfl, rfl, rfl, rfl⟩
        case round =>
          obtain ⟨k, lo', hi'', hk1, hk2, hlo', hhi', rfl, rfl, rfl, HC⟩ := hrel
          by_cases hkn : k ≤ n
          · by_cases hend : s.size ≤ i + k
            · have H0 := Lib.hid (cont_short HC.out hkn hend)
              go_wp2
              go_ret
              exact ⟨ret_bool (by rw [HI.out, HL.out, H0.out, Bool.false_and]), rfl⟩
            · have hik : i + k < s.size := by omega
              have hx : ((i : Int) + (k : Int)).toNat = i + k := by omega
              have hbb : s[i + k].toNat ≤ 255 := by have := s[i + k].toNat_lt; omega
              have hik1 : (i : Int) + k < s.size := by omega
              by_cases b1 : s[i + k].toNat < lo'
              · have H0 := Lib.hid (cont_no HC.out hkn hik (.inl b1))
                have b1' : (s[i + k].toNat : Int) < (lo' : Int) := by omega
                clear b1 hend
                go_wp2
                go_ret
                exact ⟨ret_bool (by rw [HI.out, HL.out, H0.out, Bool.false_and]), rfl⟩
              by_cases b2 : hi'' < s[i + k].toNat
              · have H0 := Lib.hid (cont_no HC.out hkn hik (.inr b2))
                have b1' : ¬ (s[i + k].toNat : Int) < (lo' : Int) := by omega
                have b2' : (hi'' : Int) < (s[i + k].toNat : Int) := by omega
                clear b1 b2 hend
                go_wp2
                go_ret
                exact ⟨ret_bool (by rw [HI.out, HL.out, H0.out, Bool.false_and]), rfl⟩
              · have H0 := Lib.hid (cont_yes HC.out hkn hik ⟨by omega, by omega⟩)
                have b1' : ¬ (s[i + k].toNat : Int) < (lo' : Int) := by omega
                have b2' : ¬ (hi'' : Int) < (s[i + k].toNat : Int) := by omega
                clear b1 b2 hend
                go_wp2
                go_round
                case rel => exact ⟨k + 1, 128, 191, by omega, by omega, by omega, by omega, rfl, rfl, by go_num, H0.out⟩
                case measure => simp [intOf]; omega
          · obtain rfl : k = n + 1 := by omega
            have H0 := Lib.hid (cont_end HC.out)
            go_wp2
            go_round
            case rel => exact ⟨i + 1 + n, by omega, by go_num, by rw [Hid, HI.out, HL.out, H0.out, Bool.true_and]⟩
            case measure => simp [intOf]; omega
    · have H : Hid (Lib.validD s.data.toList = true) := by
        rw [Hid, HI.out, List.drop_eq_nil_of_le (by simpa using hlt)]; rfl
      go_wp2
      go_ret
      exact ⟨ret_bool (by rw [H.out]), rfl⟩
end Go.Proofs.YtldncgelghcjeaaGreatDoor
namespace Go.Proofs.YtldncgelghcjeaaGreatDoor
open Go.ChangeShapes Go.WideShapes Go.ChangeAt Go.RowKit
theorem rtext_any (s : ByteArray) (w : World) (hs : s.size ≤ 1048576) : Calls Tryz.prog 129 #[.string s] w fun e w' => e = .returned (.int .i64 (textE s)) ∧ w = w' := by
  have HU := Lib.hid (fun W => utf8_any s W hs)
  have HT : Hid (textE s = if Lib.validD s.data.toList = true then (if 4096 < s.size then 2 else 0) else 10) := rfl
  cases hv : Lib.validD s.data.toList with
  | false =>
    rw [hv] at HU HT
    have HT2 : Hid (textE s = 10) := HT.out
    clear HT hv
    generalize textE s = r at *
    go_enter Tryz.func129, Tryz.ntmps129
    go_wp2_with (go_at_call 162; refine (HU.out _).mono ?_; rintro e w' ⟨rfl, rfl⟩)
    go_ret
    exact ⟨ret_int HT2.out.symm, rfl⟩
  | true =>
    rw [hv] at HU HT
    by_cases hl : 4096 < s.size
    · have HT2 : Hid (textE s = 2) := by rw [Hid, HT.out, if_pos rfl, if_pos hl]
      clear HT hv
      generalize textE s = r at *
      go_enter Tryz.func129, Tryz.ntmps129
      go_wp2_with (go_at_call 162; refine (HU.out _).mono ?_; rintro e w' ⟨rfl, rfl⟩)
      all_goals try (exfalso; omega)
      go_ret
      exact ⟨ret_int HT2.out.symm, rfl⟩
    · have HT2 : Hid (textE s = 0) := by rw [Hid, HT.out, if_pos rfl, if_neg hl]
      clear HT hv
      generalize textE s = r at *
      go_enter Tryz.func129, Tryz.ntmps129
      go_wp2_with (go_at_call 162; refine (HU.out _).mono ?_; rintro e w' ⟨rfl, rfl⟩)
      all_goals try (exfalso; omega)
      go_ret
      exact ⟨ret_int HT2.out.symm, rfl⟩
end Go.Proofs.YtldncgelghcjeaaGreatDoor
namespace Go.Proofs.YtldncgelghcjeaaGreatDoor
open Go.ChangeShapes Go.WideShapes Go.ChangeAt Go.RowKit

theorem memT_snoc (s : ByteArray) (l : List ByteArray) (x : ByteArray) : memT s (l ++ [x]) = (memT s l || decide (x = s)) := by simp [memT]
theorem memT_yes {s : ByteArray} {l : List ByteArray} {k : Nat} (h : k < l.length) (e : l[k] = s) : memT s l = true := by
  rw [memT, List.any_eq_true]
  exact ⟨l[k], List.getElem_mem h, by rw [e]; simp⟩
/-- The names of containers. -/
def namesC (l : List CM) : List ByteArray := l.map fun m => m.c.name
theorem restE_img {c : Ct} (h : imgB c.image.data.toList = false) : restE c = 6 := by unfold restE; rw [if_neg (by rw [h]; decide)]
theorem restE_many {c : Ct} (h : imgB c.image.data.toList = true) (h2 : manyE c = true) : restE c = 18 := by unfold restE; rw [if_pos h, if_pos h2]
theorem restE_range {c : Ct} (h : imgB c.image.data.toList = true) (h2 : manyE c = false) (h3 : rangeE c = true) : restE c = 7 := by unfold restE; rw [if_pos h, if_neg (by rw [h2]; decide), if_pos h3]
theorem restE_cmd {c : Ct} (h : imgB c.image.data.toList = true) (h2 : manyE c = false) (h3 : rangeE c = false) : restE c = if cmdE c.cmd = 0 then (if portsE [] c.ports = 0 then envE [] c.env else portsE [] c.ports) else cmdE c.cmd := by
  unfold restE; rw [if_pos h, if_neg (by rw [h2]; decide), if_neg (by rw [h3]; decide)]
set_option maxRecDepth 100000 in
set_option maxHeartbeats 8000000 in
theorem rcont_any (m : CM) (al : List CM) (a2 : Option Addr) (cp2 : Nat) (w : World) (hm : m.In w) (ha : RowAt w a2 (ccells al)) (hs : m.c.Sml) (hal : al.length ≤ 1048576) :
    Calls Tryz.prog 88 #[m.val, .slice a2 al.length cp2] w fun e w' => e = .returned (.int .i64 (ctE (namesC al) m.c)) ∧ Fresh w w' := by
  have HIN := Lib.hid hm
  have HAL := Lib.hid ha
  have HSM := Lib.hid hs
  have HAN := Lib.hid hal
  have d1 := hs.name
  have d2 := hs.image
  have d3 := hs.lc
  have d4 := hs.lp
  have d5 := hs.le
  have HLA := Lib.hid (fun W => rlabel_any m.c.name W (by omega))
  have HIM := Lib.hid (fun W => rimage_any m.c.image W (by omega))
  have HCT : Hid (ctE (namesC al) m.c = if labB m.c.name.data.toList = true then (if memT m.c.name (namesC al) = true then 8 else restE m.c) else 13) := rfl
  have HA := Lib.hid (at_new w (.cells #[.string m.c.name, .string m.c.image, .slice m.ca m.c.cmd.length m.cc, .slice m.pa m.c.ports.length m.pc, .int .i64 m.c.cpu, .int .i64 m.c.mem, .slice m.ea m.c.env.length m.ec] 115))
  have HF0 := Lib.hid ((Fresh.refl w).alloc (.cells #[.string m.c.name, .string m.c.image, .slice m.ca m.c.cmd.length m.cc, .slice m.pa m.c.ports.length m.pc, .int .i64 m.c.cpu, .int .i64 m.c.mem, .slice m.ea m.c.env.length m.ec] 115))
  dsimp only [CM.val]
  clear hm ha hs
  cases hlab : labB m.c.name.data.toList with
  | false =>
    rw [hlab] at HLA HCT
    have HR : Hid (ctE (namesC al) m.c = 13) := HCT.out
    clear HCT hlab
    go_enter Tryz.func88, Tryz.ntmps88
    go_wp2_with (fail)
    refine (HLA.out _).mono ?_
    rintro e w' ⟨rfl, rfl⟩
    go_wp2
    go_ret
    exact ⟨ret_int HR.out.symm, HF0.out⟩
  | true =>
    rw [hlab] at HLA HCT
    have HCT2 : Hid (ctE (namesC al) m.c = if memT m.c.name (namesC al) = true then 8 else restE m.c) := HCT.out
    clear HCT hlab
    go_enter Tryz.func88, Tryz.ntmps88
    go_wp2_with (fail)
    refine (HLA.out _).mono ?_
    rintro e w' ⟨rfl, rfl⟩
    go_wp2
    generalize w.alloc (.cells #[.string m.c.name, .string m.c.image, .slice m.ca m.c.cmd.length m.cc, .slice m.pa m.c.ports.length m.pc, .int .i64 m.c.cpu, .int .i64 m.c.mem, .slice m.ea m.c.env.length m.ec] 115) = W0 at *
    obtain ⟨b, hb⟩ : ∃ b, b = w.heap.size := ⟨_, rfl⟩
    rw [← hb] at HA ⊢
    clear hb HLA
    go_loopw [5] (fun a5 wr => ∃ (k : Nat), a5 = .int .i64 (k : Int) ∧ k ≤ al.length ∧ Hid (memT m.c.name ((namesC al).take k) = false) ∧ Hid (Fresh W0 wr)) (fun a5 _ => al.length - (intOf a5).toNat)
    case atStart => exact ⟨0, rfl, Nat.zero_le _, rfl, Fresh.refl _⟩
    case round =>
      obtain ⟨k, rfl, hk, HM, HF⟩ := hrel
      have hbx : Box7 115 wr b m.c.name m.c.image (.slice m.ca m.c.cmd.length m.cc) (.slice m.pa m.c.ports.length m.pc) m.c.cpu m.c.mem (.slice m.ea m.c.env.length m.ec) := HF.out.at HA.out
      obtain ⟨⟨q0, q1, q2, q3, q4, q5, q6⟩, _⟩ := hbx.cells
      by_cases hlt : k < al.length
      · obtain ⟨g, o1, rfl, hc⟩ := crow_form ((HAL.out.move HF0.out).move HF.out) hlt
        have c0 := (hc k hlt).1
        have hkn : k < (namesC al).length := by rw [namesC, List.length_map]; exact hlt
        have HNK : Hid ((namesC al)[k] = al[k].c.name) := by rw [Hid]; simp [namesC]
        have HSN : Hid (memT m.c.name ((namesC al).take (k + 1)) = decide (al[k].c.name = m.c.name)) := by
          rw [Hid, List.take_succ_eq_append_getElem hkn, memT_snoc, HM.out, HNK.out, Bool.false_or]
        have HYE : Hid (al[k].c.name = m.c.name → memT m.c.name (namesC al) = true) := fun e => memT_yes hkn (by rw [HNK.out]; exact e)
        clear hc hkn HNK q1 q2 q3 q4 q5 q6
        generalize al[k].c.name = x at *
        generalize hnm : m.c.name = nm at *
        by_cases hx : x = nm
        · have HR : Hid (ctE (namesC al) m.c = 8) := by rw [Hid, HCT2.out, if_pos (HYE.out hx)]
          subst hx
          go_wp2_with (fail)
          go_quiet (fail)
          go_wp2
          all_goals try (exfalso; omega)
          go_ret
          exact ⟨ret_int HR.out.symm, (HF0.out.trans HF.out).trans (fresh_drewN _ _)⟩
        · have HSN2 : Hid (memT nm ((namesC al).take (k + 1)) = false) := by rw [Hid, HSN.out, decide_eq_false hx]
          have e0 := tl_ne hx
          go_wp2_with (fail)
          go_quiet (fail)
          go_wp2
          all_goals try (exfalso; omega)
          go_roundw
          case rel => exact ⟨k + 1, by simp, by omega, HSN2.out, HF.out.trans (fresh_drewN _ _)⟩
          case measure => simp [intOf]; omega
      · obtain rfl : k = al.length := by omega
        have HRE : Hid (ctE (namesC al) m.c = restE m.c) := by
          have := HM.out
          rw [show (namesC al).take al.length = namesC al by rw [List.take_of_length_le (by simp [namesC])]] at this
          rw [Hid, HCT2.out, if_neg (by rw [this]; decide)]
        clear HM HCT2
        cases himg : imgB m.c.image.data.toList with
        | false =>
          rw [himg] at HIM
          have HR : Hid (ctE (namesC al) m.c = 6) := by rw [Hid, HRE.out, restE_img himg]
          go_wp2_with (fail)
          all_goals try (exfalso; omega)
          refine (HIM.out _).mono ?_
          rintro e w2 ⟨rfl, hf2⟩
          go_wp2
          go_ret
          exact ⟨ret_int HR.out.symm, (HF0.out.trans HF.out).trans hf2⟩
        | true =>
          rw [himg] at HIM
          go_wp2_with (fail)
          all_goals try (exfalso; omega)
          refine (HIM.out _).mono ?_
          rintro e w2 ⟨rfl, hf2⟩
          have HF2 := Lib.hid (HF.out.trans hf2)
          have hbx2 : Box7 115 w2 b m.c.name m.c.image (.slice m.ca m.c.cmd.length m.cc) (.slice m.pa m.c.ports.length m.pc) m.c.cpu m.c.mem (.slice m.ea m.c.env.length m.ec) := HF2.out.at HA.out
          have HIMG := Lib.hid himg
          clear hf2 himg q0 q1 q2 q3 q4 q5 q6 HIM hbx
          obtain ⟨⟨q0, q1, q2, q3, q4, q5, q6⟩, _⟩ := hbx2.cells
          clear hbx2
          cases hmany : manyE m.c with
          | true =>
            have HR : Hid (ctE (namesC al) m.c = 18) := by rw [Hid, HRE.out, restE_many HIMG.out hmany]
            have hd : 16 < m.c.cmd.length ∨ 16 < m.c.ports.length ∨ 16 < m.c.env.length := by
              unfold manyE at hmany
              simp only [Bool.or_eq_true, decide_eq_true_eq] at hmany
              exact hmany
            clear hmany
            go_wp2
            all_goals try (exfalso; omega)
            all_goals go_ret
            all_goals exact ⟨ret_int HR.out.symm, HF0.out.trans HF2.out⟩
          | false =>
            have hd1 : m.c.cmd.length ≤ 16 ∧ m.c.ports.length ≤ 16 ∧ m.c.env.length ≤ 16 := by
              unfold manyE at hmany
              simp only [Bool.or_eq_false_iff, decide_eq_false_iff_not] at hmany
              omega
            obtain ⟨m1, m2, m3⟩ := hd1
            cases hrng : rangeE m.c with
            | true =>
              have HR : Hid (ctE (namesC al) m.c = 7) := by rw [Hid, HRE.out, restE_range HIMG.out hmany hrng]
              have hd : m.c.cpu < 1 ∨ 64000 < m.c.cpu ∨ m.c.mem < 1 ∨ 1048576 < m.c.mem := by
                unfold rangeE at hrng
                simp only [Bool.or_eq_true, decide_eq_true_eq] at hrng
                exact hrng
              clear hmany hrng
              go_wp2
              all_goals try (exfalso; omega)
              all_goals go_ret
              all_goals exact ⟨ret_int HR.out.symm, HF0.out.trans HF2.out⟩
            | false =>
              have hd2 : 1 ≤ m.c.cpu ∧ m.c.cpu ≤ 64000 ∧ 1 ≤ m.c.mem ∧ m.c.mem ≤ 1048576 := by
                unfold rangeE at hrng
                simp only [Bool.or_eq_false_iff, decide_eq_false_iff_not] at hrng
                omega
              obtain ⟨r1, r2, r3, r4⟩ := hd2
              have HR0 : Hid (ctE (namesC al) m.c = if cmdE m.c.cmd = 0 then (if portsE [] m.c.ports = 0 then envE [] m.c.env else portsE [] m.c.ports) else cmdE m.c.cmd) := by rw [Hid, HRE.out, restE_cmd HIMG.out hmany hrng]
              have HBX : Hid (∀ W, Fresh w2 W → Box7 115 W b m.c.name m.c.image (.slice m.ca m.c.cmd.length m.cc) (.slice m.pa m.c.ports.length m.pc) m.c.cpu m.c.mem (.slice m.ea m.c.env.length m.ec)) := fun W f => (HF2.out.trans f).at HA.out
              clear hmany hrng HRE
              go_wp2
              all_goals try (exfalso; omega)
              go_loopw [6] (fun a6 wr => ∃ (k : Nat), a6 = .int .i64 (k : Int) ∧ k ≤ m.c.cmd.length ∧ Hid (cmdE m.c.cmd = cmdE (m.c.cmd.drop k)) ∧ w2 = wr) (fun a6 _ => m.c.cmd.length - (intOf a6).toNat)
              case atStart => exact ⟨0, rfl, Nat.zero_le _, rfl, rfl⟩
              case round =>
                obtain ⟨k, rfl, hk, HE, rfl⟩ := hrel
                by_cases hlt : k < m.c.cmd.length
                · obtain ⟨g, o1, ea, hc⟩ := trow_form ((HIN.out.cmd.move HF0.out).move HF2.out) hlt
                  have c0 := hc k hlt
                  have HT := Lib.hid (fun W => rtext_any m.c.cmd[k] W (by have := HSM.out.cmd _ (List.getElem_mem hlt); omega))
                  have HST : Hid (cmdE m.c.cmd = if textE m.c.cmd[k] = 0 then cmdE (m.c.cmd.drop (k + 1)) else textE m.c.cmd[k]) := by
                    rw [Hid, HE.out, List.drop_eq_getElem_cons hlt, cmdE]
                  clear hc
                  rw [ea] at q2
                  clear ea
                  generalize m.c.cmd[k] = x at *
                  by_cases hx : textE x = 0
                  · rw [hx] at HT
                    have HN : Hid (cmdE m.c.cmd = cmdE (m.c.cmd.drop (k + 1))) := by rw [Hid, HST.out, if_pos hx]
                    clear hx HST
                    go_wp2_with (go_at_call 129; refine (HT.out _).mono ?_; rintro e w' ⟨rfl, rfl⟩)
                    all_goals try (exfalso; omega)
                    go_roundw
                    case rel => exact ⟨k + 1, by simp, by omega, HN.out, by trivial⟩
                    case measure => simp [intOf]; omega
                  · have HR : Hid (ctE (namesC al) m.c = textE x) := by rw [Hid, HR0.out, HST.out, if_neg hx, if_neg hx]
                    clear HST
                    generalize textE x = ec at *
                    go_wp2_with (go_at_call 129; refine (HT.out _).mono ?_; rintro e w' ⟨rfl, rfl⟩)
                    all_goals try (exfalso; omega)
                    go_ret
                    exact ⟨ret_int HR.out.symm, HF0.out.trans HF2.out⟩
                · obtain rfl : k = m.c.cmd.length := by omega
                  have HR1 : Hid (ctE (namesC al) m.c = if portsE [] m.c.ports = 0 then envE [] m.c.env else portsE [] m.c.ports) := by
                    rw [Hid, HR0.out, HE.out, List.drop_length]; rfl
                  clear HR0 HE
                  go_wp2
                  all_goals try (exfalso; omega)
                  go_loopw [8] (fun a8 wr => ∃ (k : Nat), a8 = .int .i64 (k : Int) ∧ k ≤ m.c.ports.length ∧ Hid (portsE [] m.c.ports = portsE (m.c.ports.take k) (m.c.ports.drop k)) ∧ Hid (Fresh w2 wr)) (fun a8 _ => m.c.ports.length - (intOf a8).toNat)
                  case atStart => exact ⟨0, rfl, Nat.zero_le _, rfl, Fresh.refl _⟩
                  case round =>
                    obtain ⟨k, rfl, hk, HE, HF⟩ := hrel
                    obtain ⟨⟨q0, q1, q2, q3, q4, q5, q6⟩, _⟩ := (HBX.out _ HF.out).cells
                    by_cases hlt : k < m.c.ports.length
                    · obtain ⟨g, o1, ea, hc⟩ := prow_form (((HIN.out.ports.move HF0.out).move HF2.out).move HF.out) hlt
                      obtain ⟨c0, c1⟩ := hc k hlt
                      have HST : Hid (portsE [] m.c.ports = if portBad m.c.ports[k] = true then 7 else if memP m.c.ports[k] (m.c.ports.take k) = true then 8 else portsE (m.c.ports.take (k + 1)) (m.c.ports.drop (k + 1))) := by
                        rw [Hid, HE.out, List.drop_eq_getElem_cons hlt, portsE, List.take_succ_eq_append_getElem hlt]
                      have HC := Lib.hid hc
                      clear hc
                      rw [ea] at q3
                      have hq3 : m.pa = some ⟨g, o1, none⟩ := ea
                      have HQ3 := Lib.hid hq3
                      clear ea hq3
                      obtain ⟨px, hpx⟩ : ∃ px, px = m.c.ports[k] := ⟨_, rfl⟩
                      rw [← hpx] at c0 c1 HST
                      have HPX := Lib.hid hpx
                      clear hpx
                      obtain ⟨pn, pp⟩ := px
                      dsimp only at c0 c1
                      cases hbad : portBad (pn, pp) with
                      | true =>
                        have HR : Hid (ctE (namesC al) m.c = 7) := by rw [Hid, HR1.out, HST.out, if_pos hbad, if_neg (by decide)]
                        have hd : pn < 1 ∨ 65535 < pn ∨ pp < 0 ∨ 1 < pp := by
                          unfold portBad at hbad
                          simp only [Bool.or_eq_true, decide_eq_true_eq] at hbad
                          exact hbad
                        clear hbad HST
                        go_wp2
                        all_goals try (exfalso; omega)
                        all_goals go_ret
                        all_goals exact ⟨ret_int HR.out.symm, ((HF0.out.trans HF2.out).trans HF.out).alloc _⟩
                      | false =>
                        have hd : 1 ≤ pn ∧ pn ≤ 65535 ∧ 0 ≤ pp ∧ pp ≤ 1 := by
                          unfold portBad at hbad
                          simp only [Bool.or_eq_false_iff, decide_eq_false_iff_not] at hbad
                          omega
                        obtain ⟨z1, z2, z3, z4⟩ := hd
                        rw [hbad] at HST
                        clear hbad
                        have HB9 := Lib.hid (at_new wr (.cells #[.int .i64 pn, .int .i64 pp] 117))
                        have HF1 := Lib.hid ((Fresh.refl wr).alloc (.cells #[.int .i64 pn, .int .i64 pp] 117))
                        go_wp2
                        all_goals try (exfalso; omega)
                        generalize wr.alloc (.cells #[.int .i64 pn, .int .i64 pp] 117) = W1 at *
                        clear c0 c1 q0 q1 q2 q3 q4 q5 q6
                        have HF2q := Lib.hid (HF.out.trans HF1.out)
                        go_loopw [10] (fun a10 wq => ∃ (j : Nat), a10 = .int .i64 (j : Int) ∧ j ≤ k ∧ Hid (memP (pn, pp) (m.c.ports.take j) = false) ∧ Hid (Fresh W1 wq)) (fun a10 _ => k - (intOf a10).toNat)
                        case atStart => exact ⟨0, rfl, Nat.zero_le _, rfl, Fresh.refl _⟩
                        case round =>
                          obtain ⟨j, rfl, hj, HMP, HFq⟩ := hrel
                          obtain ⟨⟨q0, q1, q2, q3, q4, q5, q6⟩, _⟩ := (HBX.out _ (HF2q.out.trans HFq.out)).cells
                          have h9 := HFq.out.at HB9.out
                          have r0 := cell_of_at h9 (i := 0) (v := .int .i64 pn) rfl
                          have r1 := cell_of_at h9 (i := 1) (v := .int .i64 pp) rfl
                          clear h9 q0 q1 q2 q4 q5 q6
                          by_cases hlt2 : j < k
                          · have hjl : j < m.c.ports.length := by omega
                            obtain ⟨c0, c1⟩ := HC.out j hjl
                            have c0 := (HF1.out.trans HFq.out).cell c0
                            have c1 := (HF1.out.trans HFq.out).cell c1
                            have HSN : Hid (memP (pn, pp) (m.c.ports.take (j + 1)) = decide (m.c.ports[j] = (pn, pp))) := by
                              rw [Hid, List.take_succ_eq_append_getElem hjl]
                              have := HMP.out
                              unfold memP at this ⊢
                              rw [List.any_append, this]
                              simp
                            have HYE : Hid (m.c.ports[j] = (pn, pp) → memP (pn, pp) (m.c.ports.take k) = true) := fun e => by
                              rw [memP, List.any_eq_true]
                              refine ⟨m.c.ports[j], ?_, by rw [e]; simp⟩
                              have : (m.c.ports.take k)[j]? = some m.c.ports[j] := by rw [List.getElem?_take_of_lt hlt2, List.getElem?_eq_getElem hjl]
                              exact List.mem_of_getElem? this
                            obtain ⟨y, hy⟩ : ∃ y, y = m.c.ports[j] := ⟨_, rfl⟩
                            rw [← hy] at c0 c1 HSN HYE
                            clear hy
                            obtain ⟨yn, yp⟩ := y
                            dsimp only at c0 c1
                            rw [HQ3.out] at q3
                            by_cases hyx : yn = pn ∧ yp = pp
                            · obtain ⟨rfl, rfl⟩ := hyx
                              have h8 : portsE [] m.c.ports = 8 := by rw [HST.out, if_neg (by simp), if_pos (HYE.out rfl)]
                              have HR : Hid (ctE (namesC al) m.c = 8) := by rw [Hid, HR1.out, h8, if_neg (by decide)]
                              clear h8
                              go_wp2_with (fail)
                              go_quiet (fail)
                              go_wp2
                              all_goals try (exfalso; omega)
                              go_ret
                              exact ⟨ret_int HR.out.symm, (((HF0.out.trans HF2.out).trans HF2q.out).trans HFq.out).trans (fresh_drewN _ _)⟩
                            · have HN : Hid (memP (pn, pp) (m.c.ports.take (j + 1)) = false) := by
                                rw [Hid, HSN.out, decide_eq_false_iff_not]
                                intro e
                                cases e
                                exact hyx ⟨rfl, rfl⟩
                              clear HYE HSN
                              by_cases h1 : yn = pn
                              · have h2 : ¬ yp = pp := fun e => hyx ⟨h1, e⟩
                                subst h1
                                have e1 : (yp == pp) = false := by rw [beq_eq_false_iff_ne]; exact h2
                                go_wp2_with (fail)
                                go_quiet (fail)
                                go_wp2
                                all_goals try (exfalso; omega)
                                go_roundw
                                case rel => exact ⟨j + 1, by simp, by omega, HN.out, HFq.out.trans (fresh_drewN _ _)⟩
                                case measure => simp [intOf]; omega
                              · have e1 : (yn == pn) = false := by rw [beq_eq_false_iff_ne]; exact h1
                                go_wp2_with (fail)
                                go_quiet (fail)
                                go_wp2
                                all_goals try (exfalso; omega)
                                go_roundw
                                case rel => exact ⟨j + 1, by simp, by omega, HN.out, HFq.out.trans (fresh_drewN _ _)⟩
                                case measure => simp [intOf]; omega
                          · obtain rfl : j = k := by omega
                            have HN : Hid (portsE [] m.c.ports = portsE (m.c.ports.take (j + 1)) (m.c.ports.drop (j + 1))) := by
                              rw [Hid, HST.out, if_neg (by simp), if_neg (by rw [HMP.out]; decide)]
                            go_wp2
                            all_goals try (exfalso; omega)
                            go_roundw
                            case rel => exact ⟨j + 1, by simp, by omega, HN.out, HF2q.out.trans HFq.out⟩
                            case measure => simp [intOf]; omega
                    · obtain rfl : k = m.c.ports.length := by omega
                      have HR2 : Hid (ctE (namesC al) m.c = envE [] m.c.env) := by
                        have : portsE [] m.c.ports = 0 := by rw [HE.out, List.drop_length]; rfl
                        rw [Hid, HR1.out, if_pos this]
                      clear HR1 HE
                      have HF3 := Lib.hid HF.out
                      go_wp2
                      all_goals try (exfalso; omega)
                      clear q0 q1 q2 q3 q4 q5 q6
                      go_loopw [11] (fun a11 wr => ∃ (k : Nat), a11 = .int .i64 (k : Int) ∧ k ≤ m.c.env.length ∧ Hid (envE [] m.c.env = envE ((m.c.env.take k).map (·.1)) (m.c.env.drop k)) ∧ Hid (Fresh w2 wr)) (fun a11 _ => m.c.env.length - (intOf a11).toNat)
                      case atStart => exact ⟨0, rfl, Nat.zero_le _, rfl, HF3.out⟩
                      case round =>
                        obtain ⟨k, rfl, hk, HE, HF⟩ := hrel
                        obtain ⟨⟨q0, q1, q2, q3, q4, q5, q6⟩, _⟩ := (HBX.out _ HF.out).cells
                        clear q0 q1 q2 q3 q4 q5
                        by_cases hlt : k < m.c.env.length
                        · obtain ⟨g, o1, ea, hc⟩ := erow_form (((HIN.out.env.move HF0.out).move HF2.out).move HF.out) hlt
                          obtain ⟨c0, c1⟩ := hc k hlt
                          have hsm := HSM.out.env _ (List.getElem_mem hlt)
                          have HVA := Lib.hid (fun W => rvariable_any m.c.env[k].1 W (by omega))
                          have HTX := Lib.hid (fun W => rtext_any m.c.env[k].2 W (by omega))
                          have HST : Hid (envE [] m.c.env = if varB m.c.env[k].1.data.toList = true then (if memT m.c.env[k].1 ((m.c.env.take k).map (·.1)) = true then 8 else if textE m.c.env[k].2 = 0 then envE ((m.c.env.take (k + 1)).map (·.1)) (m.c.env.drop (k + 1)) else textE m.c.env[k].2) else 13) := by
                            rw [Hid, HE.out, List.drop_eq_getElem_cons hlt, envE, List.take_succ_eq_append_getElem hlt, List.map_append]
                            rfl
                          have HC := Lib.hid hc
                          have HQ6 := Lib.hid ea
                          rw [ea] at q6
                          clear hc ea
                          obtain ⟨x, hx⟩ : ∃ x, x = m.c.env[k].1 := ⟨_, rfl⟩
                          obtain ⟨tx2, hy⟩ : ∃ y, y = m.c.env[k].2 := ⟨_, rfl⟩
                          rw [← hx] at c0 HVA HST
                          rw [← hy] at c1 HTX HST
                          have HXE := Lib.hid hx
                          have HYE2 := Lib.hid hy
                          clear hx hy hsm
                          cases hvar : varB x.data.toList with
                          | false =>
                            rw [hvar] at HVA
                            have HR : Hid (ctE (namesC al) m.c = 13) := by rw [Hid, HR2.out, HST.out, if_neg (by rw [hvar]; decide)]
                            clear hvar HST
                            go_wp2_with (fail)
                            all_goals try (exfalso; omega)
                            refine (HVA.out _).mono ?_
                            rintro e w3 ⟨rfl, hf3⟩
                            go_wp2
                            go_ret
                            exact ⟨ret_int HR.out.symm, ((HF0.out.trans HF2.out).trans HF.out).trans hf3⟩
                          | true =>
                            rw [hvar] at HVA HST
                            have HST2 : Hid (envE [] m.c.env = if memT x ((m.c.env.take k).map (·.1)) = true then 8 else if textE tx2 = 0 then envE ((m.c.env.take (k + 1)).map (·.1)) (m.c.env.drop (k + 1)) else textE tx2) := HST.out
                            clear hvar HST
                            go_wp2_with (fail)
                            all_goals try (exfalso; omega)
                            refine (HVA.out _).mono ?_
                            rintro e w3 ⟨rfl, hf3⟩
                            have HF1 := Lib.hid hf3
                            have HF2q := Lib.hid (HF.out.trans hf3)
                            clear hf3 c0 c1 q6
                            go_wp2
                            go_loopw [12] (fun a12 wq => ∃ (j : Nat), a12 = .int .i64 (j : Int) ∧ j ≤ k ∧ Hid (memT x ((m.c.env.take j).map (·.1)) = false) ∧ Hid (Fresh w3 wq)) (fun a12 _ => k - (intOf a12).toNat)
                            case atStart => exact ⟨0, rfl, Nat.zero_le _, rfl, Fresh.refl _⟩
                            case round =>
                              obtain ⟨j, rfl, hj, HMT, HFq⟩ := hrel
                              obtain ⟨⟨_, _, _, _, _, _, q6⟩, _⟩ := (HBX.out _ (HF2q.out.trans HFq.out)).cells
                              rw [HQ6.out] at q6
                              have c0 := (HF1.out.trans HFq.out).cell (HC.out k hlt).1
                              rw [← HXE.out] at c0
                              by_cases hlt2 : j < k
                              · have hjl : j < m.c.env.length := by omega
                                have c2 := (HF1.out.trans HFq.out).cell (HC.out j hjl).1
                                have HSN : Hid (memT x ((m.c.env.take (j + 1)).map (·.1)) = decide (m.c.env[j].1 = x)) := by
                                  rw [Hid, List.take_succ_eq_append_getElem hjl, List.map_append, List.map_cons, List.map_nil, memT_snoc, HMT.out, Bool.false_or]
                                have HYE : Hid (m.c.env[j].1 = x → memT x ((m.c.env.take k).map (·.1)) = true) := fun e => by
                                  have hl : j < ((m.c.env.take k).map (·.1)).length := by rw [List.length_map, List.length_take]; omega
                                  exact memT_yes hl (by simpa using e)
                                generalize m.c.env[j].1 = y at *
                                by_cases hyx : y = x
                                · have h8 : envE [] m.c.env = 8 := by rw [HST2.out, if_pos (HYE.out hyx)]
                                  have HR : Hid (ctE (namesC al) m.c = 8) := by rw [Hid, HR2.out, h8]
                                  clear h8
                                  subst hyx
                                  go_wp2_with (fail)
                                  go_quiet (fail)
                                  go_wp2
                                  all_goals try (exfalso; omega)
                                  go_ret
                                  exact ⟨ret_int HR.out.symm, (((HF0.out.trans HF2.out).trans HF2q.out).trans HFq.out).trans (fresh_drewN _ _)⟩
                                · have HN : Hid (memT x ((m.c.env.take (j + 1)).map (·.1)) = false) := by rw [Hid, HSN.out, decide_eq_false hyx]
                                  have e0 := tl_ne hyx
                                  go_wp2_with (fail)
                                  go_quiet (fail)
                                  go_wp2
                                  all_goals try (exfalso; omega)
                                  go_roundw
                                  case rel => exact ⟨j + 1, by simp, by omega, HN.out, HFq.out.trans (fresh_drewN _ _)⟩
                                  case measure => simp [intOf]; omega
                              · obtain rfl : j = k := by omega
                                have c1 := (HF1.out.trans HFq.out).cell (HC.out j hlt).2
                                rw [← HYE2.out] at c1
                                have HST3 : Hid (envE [] m.c.env = if textE tx2 = 0 then envE ((m.c.env.take (j + 1)).map (·.1)) (m.c.env.drop (j + 1)) else textE tx2) := by
                                  rw [Hid, HST2.out, if_neg (by rw [HMT.out]; decide)]
                                by_cases hz : textE tx2 = 0
                                · rw [hz] at HTX
                                  have HN : Hid (envE [] m.c.env = envE ((m.c.env.take (j + 1)).map (·.1)) (m.c.env.drop (j + 1))) := by rw [Hid, HST3.out, if_pos hz]
                                  clear HST3 HST2 hz
                                  go_wp2_with (go_at_call 129; refine (HTX.out _).mono ?_; rintro e w' ⟨rfl, rfl⟩)
                                  all_goals try (exfalso; omega)
                                  go_roundw
                                  case rel => exact ⟨j + 1, by simp, by omega, HN.out, HF2q.out.trans HFq.out⟩
                                  case measure => simp [intOf]; omega
                                · have HR : Hid (ctE (namesC al) m.c = textE tx2) := by rw [Hid, HR2.out, HST3.out, if_neg hz]
                                  clear HST3 HST2
                                  generalize textE tx2 = ec at *
                                  go_wp2_with (go_at_call 129; refine (HTX.out _).mono ?_; rintro e w' ⟨rfl, rfl⟩)
                                  all_goals try (exfalso; omega)
                                  go_ret
                                  exact ⟨ret_int HR.out.symm, ((HF0.out.trans HF2.out).trans HF2q.out).trans HFq.out⟩
                        · obtain rfl : k = m.c.env.length := by omega
                          have HR : Hid (ctE (namesC al) m.c = 0) := by rw [Hid, HR2.out, HE.out, List.drop_length]; rfl
                          go_wp2
                          all_goals try (exfalso; omega)
                          go_ret
                          exact ⟨ret_int HR.out.symm, (HF0.out.trans HF2.out).trans HF.out⟩
end Go.Proofs.YtldncgelghcjeaaGreatDoor
