/-
  What package ckone's Encode returns.
  A number, a text, how many, a yes or no: what the writer of package ckthree writes.
  A container, as the writer of package ckthree writes it.
  A pod, as the writer of package ckthree writes it.
-/
import Derived.Test.YtldncgelghcjeaaGreatDoorCat21
import Derived.Deep.RegionHeld3
import Derived.Test.YtldncgelghcjeaaGreatDoorCat06
set_option linter.unusedSimpArgs false
set_option linter.unusedVariables false
namespace Go.Proofs.YtldncgelghcjeaaGreatDoor.K
open Go.ChangeShapes Go.WideShapes Go.ChangeAt Go.RowKit
set_option maxRecDepth 100000

theorem wrap_u64' {r : Int} (h0 : 0 ≤ r) (h1 : r < 18446744073709551616) : IntKind.u64.wrap r = r := by
  simp [IntKind.wrap, IntKind.signed, IntKind.bits]; omega
set_option maxHeartbeats 2000000 in
theorem encode_bad (seq : Int) (a : Option Addr) (l : List P1) (c : Nat) (w : World) (h : RowAt w a (p1s l)) (hf : ∀ p ∈ l, p.Fit maxLen) (hb : chk1 l ≠ 0) :
    Calls Tryz.prog 86 #[st1 seq a l.length c] w fun e w' => e = .returned (.tuple #[.string ⟨#[]⟩, .int .i64 (chk1 l)]) ∧ Fresh w w' := by
  have HF0 := Lib.hid ((Fresh.refl w).alloc (.cells #[.int .u32 seq, .slice a l.length c] 63))
  have HC := Lib.hid (check_any seq a l c _ (h.move HF0.out) hf)
  dsimp only [st1] at *
  clear h hf
  generalize chk1 l = E at *
  have e0 : (E != 0) = true := by simpa using hb
  clear hb
  go_enter Tryz.func86, Tryz.ntmps86
  go_wp2_with (fail)
  refine HC.out.mono ?_
  rintro e w1 ⟨rfl, hf⟩
  have HF := Lib.hid (HF0.out.trans hf)
  clear hf
  go_wp2
  go_ret2
  exact ⟨rfl, HF.out⟩
set_option maxHeartbeats 4000000 in
theorem encode_ok (seq : Int) (a : Option Addr) (l : List P1) (c : Nat) (w : World) (h : RowAt w a (p1s l)) (hf : ∀ p ∈ l, p.Fit maxLen) (h0 : chk1 l = 0) (hs0 : 0 ≤ seq) (hs1 : seq ≤ 4294967295) :
    Calls Tryz.prog 86 #[st1 seq a l.length c] w fun e w' => e = .returned (.tuple #[.string (tx (enc1L seq l)), .int .i64 0]) ∧ Fresh w w' := by
  have hA := at_new w (.cells #[.int .u32 seq, .slice a l.length c] 63)
  have HF0 := Lib.hid ((Fresh.refl w).alloc (.cells #[.int .u32 seq, .slice a l.length c] 63))
  have hck := check_any seq a l c _ (h.move HF0.out) hf
  rw [h0] at hck
  have HC := Lib.hid hck
  obtain ⟨hlen, hfit⟩ := chk_fit h0 (fun p hp => ⟨(hf p hp).r0, (hf p hp).r1⟩)
  have HFT := Lib.hid hfit
  have HROW := Lib.hid (h.move HF0.out)
  have HENC : Hid (enc1L seq l = be 4 seq.toNat ++ (be 2 l.length ++ l.flatMap podL)) := rfl
  have HP4 := Lib.hid (fun W => put_yes 4 seq W (by decide) hs0 (by omega))
  have HP2 := Lib.hid (fun W => put_yes 2 (l.length : Int) W (by decide) (by omega) (by omega))
  have hw := wrap_u64' hs0 (by omega)
  have hw2 : IntKind.u64.wrap (l.length : Int) = (l.length : Int) := wrap_u64' (by omega) (by omega)
  have HA := Lib.hid hA
  rw [show (4 : Int).toNat = 4 from rfl] at HP4
  rw [show (2 : Int).toNat = 2 from rfl, Int.toNat_natCast] at HP2
  dsimp only [st1] at *
  clear h hf h0 hck hfit hA
  go_enter Tryz.func86, Tryz.ntmps86
  go_wp2_with (fail)
  refine HC.out.mono ?_
  rintro e w1 ⟨rfl, hf⟩
  obtain ⟨q0, q1, _⟩ := st1_box (hf.at HA.out)
  have HF1 := Lib.hid (HF0.out.trans hf)
  have HROW1 := Lib.hid (HROW.out.move hf)
  have HA1 := Lib.hid (hf.at HA.out)
  have hBL := bld_new w1
  have HF2 := Lib.hid ((Fresh.refl w1).alloc (.cells #[.pointer none, .slice none 0 0] 100))
  have HA2 := Lib.hid (at_alloc (p := .cells #[.pointer none, .slice none 0 0] 100) HA1.out)
  have HBL := Lib.hid hBL
  have hzl := lt_of_at HA1.out
  clear hf hBL HROW HA HC
  obtain ⟨z, hz⟩ : ∃ z, z = w.heap.size := ⟨_, rfl⟩
  rw [← hz] at q0 q1 HA1 HA2 hzl ⊢
  clear hz
  go_wp2_with (fail)
  refine (HP4.out _).mono ?_
  rintro e w2 ⟨rfl, hf2⟩
  have HW := Lib.hid (HF2.out.trans hf2)
  have HB := Lib.hid (HBL.out.fresh hf2)
  have HAk := Lib.hid (hf2.at HA2.out)
  clear hf2 HBL HF2 HA2 q0 q1 hzl
  obtain ⟨b, hb⟩ : ∃ b, b = w1.heap.size := ⟨_, rfl⟩
  have HBB := Lib.hid hb
  rw [← hb] at HB ⊢
  clear hb
  go_wp2_with (fail)
  refine (write_any b b [] (beS 4 seq.toNat) _ HB.out (by rw [beS_size]; simp) (by have := HW.out.size; rw [HBB.out]; exact this)).mono ?_
  rintro e w3 ⟨rfl, hb3, hf3⟩
  have HW := Lib.hid (HW.out.below hf3 (by rw [HBB.out]; exact Nat.le_refl _))
  have HB := Lib.hid hb3
  obtain ⟨q0, q1, _⟩ := st1_box (HW.out.at HA1.out)
  clear hf3 hb3
  go_wp2_with (fail)
  refine (HP2.out _).mono ?_
  rintro e w4 ⟨rfl, hf4⟩
  have HW := Lib.hid (HW.out.trans hf4)
  have HB := Lib.hid (HB.out.fresh hf4)
  clear hf4 q0 q1
  go_wp2_with (fail)
  refine (write_any b b _ (beS 2 l.length) _ HB.out (by rw [beS_size]; simp [beS, be_length]) (by have := HW.out.size; rw [HBB.out]; exact this)).mono ?_
  rintro e w5 ⟨rfl, hb5, hf5⟩
  have HW := Lib.hid (HW.out.below hf5 (by rw [HBB.out]; exact Nat.le_refl _))
  have HB : Hid (Bld b b (be 4 seq.toNat ++ (be 2 l.length ++ (l.take 0).flatMap podL)) w5) := by
    simpa [Hid, beS] using hb5
  obtain ⟨q0, q1, _⟩ := st1_box (HW.out.at HA1.out)
  clear hf5 hb5
  go_wp2
  clear q0 q1
  go_loopw [27] (fun a27 wr => ∃ (k : Nat), a27 = .int .i64 (k : Int) ∧ k ≤ l.length ∧ Hid (Bld b b (be 4 seq.toNat ++ (be 2 l.length ++ (l.take k).flatMap podL)) wr) ∧ Hid (Fresh w1 wr)) (fun a27 _ => l.length - (intOf a27).toNat)
  case atStart => exact ⟨0, rfl, Nat.zero_le _, HB.out, HW.out⟩
  case round =>
    obtain ⟨k, rfl, hk, HBk, HF⟩ := hrel
    by_cases hlt : k < l.length
    · obtain ⟨g, o1, rfl, hc⟩ := p1_form (HROW1.out.move HF.out) hlt
      obtain ⟨c0, c1, c2, c3⟩ := hc k hlt
      have HFI := Lib.hid (HFT.out _ (List.getElem_mem hlt))
      have HPB := Lib.hid (fun W => podB_any l[k] W (HFI.out.mono (by omega)))
      have HTK : Hid ((l.take (k + 1)).flatMap podL = (l.take k).flatMap podL ++ podL l[k]) := by
        rw [Hid, List.take_succ_eq_append_getElem hlt, List.flatMap_append]; simp
      have HLN : Hid ((be 4 seq.toNat ++ (be 2 l.length ++ (l.take k).flatMap podL)).length + (tx (podL l[k])).size ≤ 140737488355328) := by
        have h1 := flat_le podL 772 (l.take k) (fun p hp => podL_len (HFT.out p (List.mem_of_mem_take hp)))
        have h2 := podL_len HFI.out
        have h3 : (l.take k).length * 772 ≤ 1024 * 772 := Nat.mul_le_mul (by rw [List.length_take]; omega) (Nat.le_refl _)
        rw [Hid, tx_size]
        simp only [List.length_append, be_length]
        omega
      clear hc
      have HPL := Lib.hid (tx_toList (podL l[k]))
      generalize tx (podL l[k]) = PB at *
      generalize podL l[k] = PL at *
      generalize l[k] = p at *
      obtain ⟨file, name, image, r⟩ := p
      dsimp only [P1.val] at *
      have HF1 := Lib.hid ((Fresh.refl wr).alloc (.cells #[.string file, .string name, .string image, .int .u8 r] 154))
      go_wp2_with (fail)
      all_goals try (exfalso; omega)
      refine (HPB.out _).mono ?_
      rintro e w6 ⟨rfl, hf6⟩
      have HFq := Lib.hid (HF1.out.trans hf6)
      have HB6 := Lib.hid (HBk.out.fresh HFq.out)
      have HFr := Lib.hid (HF.out.trans HFq.out)
      clear hf6 HF1
      go_wp2_with (fail)
      refine (write_any b b _ PB _ HB6.out HLN.out (by have := HFr.out.size; rw [HBB.out]; exact this)).mono ?_
      rintro e w7 ⟨rfl, hb7, hf7⟩
      have HW7 := Lib.hid (HFr.out.below hf7 (by rw [HBB.out]; exact Nat.le_refl _))
      have HB7 : Hid (Bld b b (be 4 seq.toNat ++ (be 2 l.length ++ (l.take (k + 1)).flatMap podL)) w7) := by
        rw [Hid, HTK.out, ← List.append_assoc, ← List.append_assoc, ← HPL.out]
        simpa [List.append_assoc] using hb7
      clear hf7 hb7
      go_wp2
      go_roundw
      case rel => exact ⟨k + 1, by simp, by omega, HB7.out, HW7.out⟩
      case measure => simp [intOf]; omega
    · obtain rfl : k = l.length := by omega
      have HB9 : Hid (Bld b b (enc1L seq l) wr) := by
        have := HBk.out
        rw [List.take_length] at this
        rw [Hid, HENC.out]; exact this
      have HS := Lib.hid (str_any b b (enc1L seq l) wr HB9.out (by have := HF.out.size; rw [HBB.out]; exact this))
      go_wp2_with (fail)
      all_goals try (exfalso; omega)
      refine HS.out.mono ?_
      rintro e w8 ⟨rfl, hf8⟩
      have HF9 := Lib.hid ((HF1.out.trans HF.out).below hf8 (by rw [HBB.out]; exact HF1.out.size))
      clear hf8
      go_wp2
      go_ret2
      exact ⟨rfl, HF9.out⟩
end Go.Proofs.YtldncgelghcjeaaGreatDoor.K
namespace Go.Proofs.YtldncgelghcjeaaGreatDoor.K
open Go.ChangeShapes Go.WideShapes Go.ChangeAt Go.RowKit
set_option maxRecDepth 100000

theorem be_list (n v : Nat) : (beS n v).data.toList = be n v := by rw [beS_tx, tx_toList]
set_option maxHeartbeats 1000000 in
theorem numW_any (b : Nat) (l : List UInt8) (n : Nat) (v : Int) (w : World) (h : BldW b l w) (hn : okN n = true) (h0 : 0 ≤ v) (h1 : v < 18446744073709551616) (hl : l.length ≤ 70368744177664) :
    Calls Tryz.prog 45 #[.pointer (some ⟨b, 0, none⟩), .int .i64 n, .int .u64 v] w fun e w' => e = .returned (.tuple #[]) ∧ BldW b (l ++ be n v.toNat) w' ∧ Wrt b w w' := by
  have hn8 : n ≤ 8 := by rcases okN_cases hn with e | e | e | e <;> omega
  have HP := Lib.hid (fun W => put_yes (n : Int) v W hn h0 h1)
  rw [Int.toNat_natCast] at HP
  have HL : Hid (l.length + (beS n v.toNat).size ≤ 140737488355328) := by rw [Hid, beS_size]; omega
  have HE := Lib.hid (be_list n v.toNat)
  rw [← HE.out]
  generalize beS n v.toNat = S at *
  have HB := Lib.hid h
  have HBL := Lib.hid h.lt
  clear h hn h0 h1 hl hn8 HE
  have HW : Hid (Wrt b w w.drew) := ⟨(Below.refl _ _).drew, fun _ _ _ h _ _ => h⟩
  have HB : Hid (BldW b l w.drew) := HB.out
  go_enter Tryz.func45, Tryz.ntmps45
  go_wp2_with (fail)
  go_region_held3 (fun _ => True) (trivial)
    (first
      | (go_at_call 90; (with_reducible refine (HP.out _).mono ?_); rintro e W2 ⟨rfl, hf⟩; have HB := Lib.hid (HB.out.fresh hf); have HW := Lib.hid (HW.out.trans (.of hf (Nat.le_of_lt HBL.out))); clear hf)
      | (go_at_call 89; (with_reducible refine (writeW_any b _ S _ HB.out HL.out).mono ?_); rintro e W2 ⟨rfl, hb3, hf⟩; have HB := Lib.hid hb3; have HW := Lib.hid (HW.out.trans hf); clear hf hb3))
  all_goals go_wp2
  all_goals go_end0
  all_goals exact ⟨rfl, HB.out, HW.out⟩
set_option maxHeartbeats 1000000 in
theorem flagW_run (b : Bool) (w : World) : Calls Tryz.prog 92 #[.bool b] w fun e w' => e = .returned (.string (beS 1 b.toNat)) ∧ Fresh w w' := by
  cases b
  all_goals
    go_enter Tryz.func92, Tryz.ntmps92
    go_wp2_with (fail)
    refine (put_yes _ _ _ (by decide) (by omega) (by omega)).mono ?_
    rintro e w' ⟨rfl, hg⟩
    go_wp2
    go_ret
    exact ⟨rfl, hg⟩
set_option maxHeartbeats 1000000 in
theorem textW_any (b : Nat) (l : List UInt8) (s : ByteArray) (w : World) (h : BldW b l w) (hs : s.size ≤ 4096) (hl : l.length ≤ 70368744177664) :
    Calls Tryz.prog 46 #[.pointer (some ⟨b, 0, none⟩), .string s] w fun e w' => e = .returned (.tuple #[]) ∧ BldW b (l ++ txtL s) w' ∧ Wrt b w w' := by
  have HT := Lib.hid (text_ok s w hs)
  rw [txt_tx] at HT
  have HL : Hid (l.length + (tx (txtL s)).size ≤ 140737488355328) := by rw [Hid, tx_size, txtL_len]; omega
  have HE := Lib.hid (tx_toList (txtL s))
  rw [← HE.out]
  generalize tx (txtL s) = S at *
  have HB := Lib.hid h
  have HBL := Lib.hid h.lt
  clear h hs hl HE
  go_enter Tryz.func46, Tryz.ntmps46
  go_wp2_with (fail)
  refine HT.out.mono ?_
  rintro e w1 ⟨rfl, hf⟩
  have HB := Lib.hid (HB.out.fresh hf)
  have HW : Hid (Wrt b w w1) := .of hf (Nat.le_of_lt HBL.out)
  clear hf
  go_wp2_with (fail)
  refine (writeW_any b _ S _ HB.out HL.out).mono ?_
  rintro e w2 ⟨rfl, hb3, hf⟩
  have HB := Lib.hid hb3
  have HW := Lib.hid (HW.out.trans hf)
  clear hf hb3
  go_wp2
  go_end0
  exact ⟨rfl, HB.out, HW.out⟩
theorem manyW_any (b : Nat) (l : List UInt8) (n : Nat) (w : World) (h : BldW b l w) (hn : n ≤ 1048576) (hl : l.length ≤ 70368744177664) :
    Calls Tryz.prog 93 #[.pointer (some ⟨b, 0, none⟩), .int .i64 n] w fun e w' => e = .returned (.tuple #[]) ∧ BldW b (l ++ be 1 n) w' ∧ Wrt b w w' := by
  have HN := Lib.hid (numW_any b l 1 (n : Int) w h (by decide) (by omega) (by omega) hl)
  rw [Int.toNat_natCast] at HN
  have hw : IntKind.u64.wrap (n : Int) = (n : Int) := wrap_u64' (by omega) (by omega)
  clear h hl
  go_enter Tryz.func93, Tryz.ntmps93
  go_wp2_with (fail)
  refine HN.out.mono ?_
  rintro e w1 ⟨rfl, hb, hf⟩
  go_wp2
  go_end0
  exact ⟨rfl, hb, hf⟩
end Go.Proofs.YtldncgelghcjeaaGreatDoor.K
namespace Go.Proofs.YtldncgelghcjeaaGreatDoor.K
open Go.ChangeShapes Go.WideShapes Go.ChangeAt Go.RowKit
set_option maxRecDepth 100000

theorem Wrt.fresh {b : Nat} {w0 w w' : World} (h : Wrt b w w') (f : Fresh w0 w) (hb : w0.heap.size ≤ b) : Fresh w0 w' := f.below h.below hb
theorem flat_take {α : Type} (f : α → List UInt8) {l : List α} {k : Nat} (h : k < l.length) : (l.take (k + 1)).flatMap f = (l.take k).flatMap f ++ f l[k] := by
  rw [List.take_succ_eq_append_getElem h, List.flatMap_append]; simp
theorem flat_takele {α : Type} (f : α → List UInt8) (l : List α) (k c n : Nat) (h : ∀ x ∈ l, (f x).length ≤ c) (hl : l.length ≤ n) : ((l.take k).flatMap f).length ≤ n * c := by
  have h1 := flat_le f c (l.take k) (fun x hx => h x (List.mem_of_mem_take hx))
  have h3 : (l.take k).length * c ≤ n * c := Nat.mul_le_mul (by rw [List.length_take]; omega) (Nat.le_refl _)
  omega
set_option maxHeartbeats 8000000 in
theorem contW_any (b : Nat) (l : List UInt8) (m : CM) (w0 w : World) (h : BldW b l w) (hin : m.In w0) (hf : Fresh w0 w) (hb : w0.heap.size ≤ b) (ho : CtOk m.c) (hl : l.length ≤ 35184372088832) :
    Calls Tryz.prog 94 #[.pointer (some ⟨b, 0, none⟩), m.val] w fun e w' => e = .returned (.tuple #[]) ∧ BldW b (l ++ ct3L m.c) w' ∧ Wrt b w w' := by
  obtain ⟨⟨name, image, cmd, ports, cpu, mem, env⟩, ca, cc, pa, pc, ea, ec⟩ := m
  have hn : name.size ≤ 63 := ho.name
  have hi : image.size ≤ 255 := ho.image
  have hlc : cmd.length ≤ 16 := ho.lc
  have hlp : ports.length ≤ 16 := ho.lp
  have hle : env.length ≤ 16 := ho.le
  have hu0 : 1 ≤ cpu := ho.cpu0
  have hu1 : cpu ≤ 64000 := ho.cpu1
  have hm0 : 1 ≤ mem := ho.mem0
  have hm1 : mem ≤ 1048576 := ho.mem1
  have HOC : Hid (∀ s ∈ cmd, s.size ≤ 4096) := ho.cmd
  have HOP : Hid (∀ p ∈ ports, (1 ≤ p.1 ∧ p.1 ≤ 65535) ∧ 0 ≤ p.2 ∧ p.2 ≤ 1) := ho.ports
  have HOE : Hid (∀ v ∈ env, v.1.size ≤ 63 ∧ v.2.size ≤ 4096) := ho.env
  have HRC : Hid (RowAt w0 ca (tcells cmd)) := hin.cmd
  have HRP : Hid (RowAt w0 pa (pcells ports)) := hin.ports
  have HRE : Hid (RowAt w0 ea (ecells env)) := hin.env
  have hwu := wrap_u64' (r := cpu) (by omega) (by omega)
  have hwm := wrap_u64' (r := mem) (by omega) (by omega)
  have HCT : Hid (l ++ ct3L ⟨name, image, cmd, ports, cpu, mem, env⟩ = l ++ txtL name ++ txtL image ++ be 1 cmd.length ++ cmd.flatMap txtL ++ be 1 ports.length ++ ports.flatMap portL ++ be 4 cpu.toNat ++ be 4 mem.toNat ++ be 1 env.length ++ env.flatMap envL) := by
    rw [Hid, ct3L]; simp only [List.append_assoc]
  dsimp only [CM.val] at *
  have HF0 := Lib.hid (hf.alloc (.cells #[.string name, .string image, .slice ca cmd.length cc, .slice pa ports.length pc, .int .i64 cpu, .int .i64 mem, .slice ea env.length ec] 126))
  have HB : Hid (BldW b l (w.alloc (.cells #[.string name, .string image, .slice ca cmd.length cc, .slice pa ports.length pc, .int .i64 cpu, .int .i64 mem, .slice ea env.length ec] 126))) := h.fresh ((Fresh.refl w).alloc _)
  have HW0 : Hid (Wrt b w (w.alloc (.cells #[.string name, .string image, .slice ca cmd.length cc, .slice pa ports.length pc, .int .i64 cpu, .int .i64 mem, .slice ea env.length ec] 126))) := .of ((Fresh.refl w).alloc _) (Nat.le_of_lt h.lt)
  have HA := Lib.hid (at_new w (.cells #[.string name, .string image, .slice ca cmd.length cc, .slice pa ports.length pc, .int .i64 cpu, .int .i64 mem, .slice ea env.length ec] 126))
  have HBW := Lib.hid hb
  clear h hin hf ho hb
  go_enter Tryz.func94, Tryz.ntmps94
  go_wp2_with (fail)
  generalize w.alloc (.cells #[.string name, .string image, .slice ca cmd.length cc, .slice pa ports.length pc, .int .i64 cpu, .int .i64 mem, .slice ea env.length ec] 126) = W1 at *
  obtain ⟨z, hz⟩ : ∃ z, z = w.heap.size := ⟨_, rfl⟩
  rw [← hz] at HA ⊢
  clear hz
  have HKP : Hid (∀ W, Wrt b W1 W → W.cell? ⟨z, 0, none⟩ = some (.string name) ∧ W.cell? ⟨z, 1, none⟩ = some (.string image) ∧ W.cell? ⟨z, 2, none⟩ = some (.slice ca cmd.length cc) ∧ W.cell? ⟨z, 3, none⟩ = some (.slice pa ports.length pc) ∧ W.cell? ⟨z, 4, none⟩ = some (.int .i64 cpu) ∧ W.cell? ⟨z, 5, none⟩ = some (.int .i64 mem) ∧ W.cell? ⟨z, 6, none⟩ = some (.slice ea env.length ec)) := fun W f =>
    box7 (m := ⟨⟨name, image, cmd, ports, cpu, mem, env⟩, ca, cc, pa, pc, ea, ec⟩) (f.keeps _ _ _ HA.out (by decide) (by decide))
  have HW : Hid (Wrt b W1 W1) := .refl _ _
  obtain ⟨q0, q1, q2, q3, q4, q5, q6⟩ := HKP.out _ HW.out
  go_wp2_with (fail)
  refine (textW_any b _ name _ HB.out (by omega) (by omega)).mono ?_
  rintro e w1 ⟨rfl, hb1, hf1⟩
  have HB := Lib.hid hb1
  have HW := Lib.hid (HW.out.trans hf1)
  clear q0 q1 q2 q3 q4 q5 q6 hb1 hf1
  obtain ⟨q0, q1, q2, q3, q4, q5, q6⟩ := HKP.out _ HW.out
  have hl1 : (l ++ txtL name).length ≤ 35184372089832 := by rw [List.length_append, txtL_len]; omega
  go_wp2_with (fail)
  refine (textW_any b _ image _ HB.out (by omega) (by omega)).mono ?_
  rintro e w2 ⟨rfl, hb1, hf1⟩
  have HB := Lib.hid hb1
  have HW := Lib.hid (HW.out.trans hf1)
  clear q0 q1 q2 q3 q4 q5 q6 hb1 hf1
  obtain ⟨q0, q1, q2, q3, q4, q5, q6⟩ := HKP.out _ HW.out
  have hl2 : (l ++ txtL name ++ txtL image).length ≤ 35184372090832 := by rw [List.length_append, txtL_len]; omega
  go_wp2_with (fail)
  refine (manyW_any b _ cmd.length _ HB.out (by omega) (by omega)).mono ?_
  rintro e w3 ⟨rfl, hb1, hf1⟩
  have HB := Lib.hid hb1
  have HW := Lib.hid (HW.out.trans hf1)
  clear q0 q1 q2 q3 q4 q5 q6 hb1 hf1
  obtain ⟨q0, q1, q2, q3, q4, q5, q6⟩ := HKP.out _ HW.out
  have hl3 : (l ++ txtL name ++ txtL image ++ be 1 cmd.length).length ≤ 35184372091832 := by rw [List.length_append, be_length]; omega
  generalize hE : l ++ txtL name ++ txtL image ++ be 1 cmd.length = P1 at *
  have HE1 := Lib.hid hE
  clear hE
  clear hl1 hl2
  have HB0 : Hid (BldW b (P1 ++ (cmd.take 0).flatMap txtL) w3) := by rw [Hid, List.take_zero, List.flatMap_nil, List.append_nil]; exact HB.out
  go_wp2
  clear q0 q1 q2 q3 q4 q5 q6
  go_loopw [26] (fun a26 wr => ∃ (k : Nat), a26 = .int .i64 (k : Int) ∧ k ≤ cmd.length ∧ Hid (BldW b (P1 ++ (cmd.take k).flatMap txtL) wr) ∧ Hid (Wrt b W1 wr)) (fun a26 _ => cmd.length - (intOf a26).toNat)
  case atStart => exact ⟨0, rfl, Nat.zero_le _, HB0.out, HW.out⟩
  case round =>
  clear HB HB0 HW
  obtain ⟨k, rfl, hk, HB, HW⟩ := hrel
  by_cases hlt : k < cmd.length
  case pos =>
    obtain ⟨gb, o1, rfl, hc⟩ := trow_form (HRC.out.move (HW.out.fresh HF0.out HBW.out)) hlt
    have c0 := hc k hlt
    have hx := HOC.out _ (List.getElem_mem hlt)
    have HTK := Lib.hid (flat_take txtL hlt)
    have hX : (P1 ++ (cmd.take k).flatMap txtL).length ≤ 35184372191832 := by
      have := flat_takele txtL cmd k 4098 16 (fun s hs => by rw [txtL_len]; have := HOC.out s hs; omega) hlc
      rw [List.length_append]; omega
    clear hc
    generalize cmd[k] = s at *
    go_wp2_with (fail)
    all_goals try (exfalso; omega)
    refine (textW_any b _ s _ HB.out hx (by omega)).mono ?_
    rintro e w4 ⟨rfl, hb1, hf1⟩
    have HB := Lib.hid hb1
    have HW := Lib.hid (HW.out.trans hf1)
    clear hb1 hf1 c0
    go_wp2
    go_roundw
    case rel => exact ⟨k + 1, by simp, by omega, by rw [Hid, HTK.out, ← List.append_assoc]; exact HB.out, HW.out⟩
    case measure => simp [intOf]; omega
  case neg =>
  obtain rfl : k = cmd.length := by omega
  have HB : Hid (BldW b (P1 ++ cmd.flatMap txtL) wr) := by
    have := HB.out
    rw [List.take_length] at this; exact this
  have hl4 : (P1 ++ cmd.flatMap txtL).length ≤ 35184372291832 := by
    have := flat_le txtL 4098 cmd (fun s hs => by rw [txtL_len]; have := HOC.out s hs; omega)
    have e1 : cmd.length * 4098 ≤ 16 * 4098 := Nat.mul_le_mul hlc (Nat.le_refl _)
    rw [List.length_append]; omega
  obtain ⟨q0, q1, q2, q3, q4, q5, q6⟩ := HKP.out _ HW.out
  generalize hE : P1 ++ cmd.flatMap txtL = P2 at *
  have HE2 := Lib.hid hE
  clear hE
  clear hl3 HRC HOC
  go_wp2_with (fail)
  all_goals try (exfalso; omega)
  refine (manyW_any b _ ports.length _ HB.out (by omega) (by omega)).mono ?_
  rintro e w5 ⟨rfl, hb1, hf1⟩
  have HB := Lib.hid hb1
  have HW := Lib.hid (HW.out.trans hf1)
  clear q0 q1 q2 q3 q4 q5 q6 hb1 hf1
  obtain ⟨q0, q1, q2, q3, q4, q5, q6⟩ := HKP.out _ HW.out
  have hl5 : (P2 ++ be 1 ports.length).length ≤ 35184372391832 := by rw [List.length_append, be_length]; omega
  generalize hE : P2 ++ be 1 ports.length = P3 at *
  have HE3 := Lib.hid hE
  clear hE
  clear hl4
  have HB0 : Hid (BldW b (P3 ++ (ports.take 0).flatMap portL) w5) := by rw [Hid, List.take_zero, List.flatMap_nil, List.append_nil]; exact HB.out
  go_wp2
  clear q0 q1 q2 q3 q4 q5 q6
  go_loopw [42] (fun a42 wr => ∃ (k : Nat), a42 = .int .i64 (k : Int) ∧ k ≤ ports.length ∧ Hid (BldW b (P3 ++ (ports.take k).flatMap portL) wr) ∧ Hid (Wrt b W1 wr)) (fun a42 _ => ports.length - (intOf a42).toNat)
  case atStart => exact ⟨0, rfl, Nat.zero_le _, HB0.out, HW.out⟩
  case round =>
  clear HB HB0 HW
  obtain ⟨k, rfl, hk, HB, HW⟩ := hrel
  by_cases hlt : k < ports.length
  case pos =>
    obtain ⟨gb, o1, rfl, hc⟩ := prow_form (HRP.out.move (HW.out.fresh HF0.out HBW.out)) hlt
    obtain ⟨c0, c1⟩ := hc k hlt
    have hx := HOP.out _ (List.getElem_mem hlt)
    have HTK := Lib.hid (flat_take portL hlt)
    have hX : (P3 ++ (ports.take k).flatMap portL).length ≤ 35184372491832 := by
      have := flat_takele portL ports k 3 16 (fun p _ => by simp only [portL, List.length_append, be_length]; omega) hlp
      rw [List.length_append]; omega
    clear hc
    generalize ports[k] = p at *
    obtain ⟨p1, p2⟩ := p
    obtain ⟨⟨hx0, hx1⟩, hx2, hx3⟩ := hx
    have HPL : Hid (portL (p1, p2) = be 2 p1.toNat ++ be 1 p2.toNat) := rfl
    dsimp only at hx0 hx1 hx2 hx3 c0 c1
    have hw1 := wrap_u64' (r := p1) (by omega) (by omega)
    have hw2 := wrap_u64' (r := p2) (by omega) (by omega)
    have HPB := Lib.hid (at_new wr (.cells #[.int .i64 p1, .int .i64 p2] 129))
    have HF1 := Lib.hid ((Fresh.refl wr).alloc (.cells #[.int .i64 p1, .int .i64 p2] 129))
    have HW := Lib.hid (HW.out.trans (.of HF1.out (Nat.le_of_lt HB.out.lt)))
    have HB := Lib.hid (HB.out.fresh HF1.out)
    go_wp2_with (fail)
    all_goals try (exfalso; omega)
    generalize wr.alloc (.cells #[.int .i64 p1, .int .i64 p2] 129) = X1 at *
    generalize wr.heap.size = y at *
    refine (numW_any b _ 2 p1 _ HB.out (by decide) (by omega) (by omega) (by omega)).mono ?_
    rintro e w6 ⟨rfl, hb1, hf1⟩
    have HPB := Lib.hid (hf1.keeps _ _ _ HPB.out (by decide) (by decide))
    have HB := Lib.hid hb1
    have HW := Lib.hid (HW.out.trans hf1)
    have r0 := cell_of_at HPB.out (i := 0) rfl
    have r1 := cell_of_at HPB.out (i := 1) rfl
    clear hb1 hf1 c0 c1
    go_wp2_with (fail)
    refine (numW_any b _ 1 p2 _ HB.out (by decide) (by omega) (by omega) (by rw [List.length_append, be_length]; omega)).mono ?_
    rintro e w7 ⟨rfl, hb1, hf1⟩
    have HB := Lib.hid hb1
    have HW := Lib.hid (HW.out.trans hf1)
    clear hb1 hf1 r0 r1
    go_wp2
    go_roundw
    case rel => exact ⟨k + 1, by simp, by omega, by rw [Hid, HTK.out, HPL.out, ← List.append_assoc, ← List.append_assoc]; exact HB.out, HW.out⟩
    case measure => simp [intOf]; omega
  case neg =>
  obtain rfl : k = ports.length := by omega
  have HB : Hid (BldW b (P3 ++ ports.flatMap portL) wr) := by
    have := HB.out
    rw [List.take_length] at this; exact this
  have hl4 : (P3 ++ ports.flatMap portL).length ≤ 35184372591832 := by
    have := flat_le portL 3 ports (fun p _ => by simp only [portL, List.length_append, be_length]; omega)
    have e1 : ports.length * 3 ≤ 16 * 3 := Nat.mul_le_mul hlp (Nat.le_refl _)
    rw [List.length_append]; omega
  obtain ⟨q0, q1, q2, q3, q4, q5, q6⟩ := HKP.out _ HW.out
  generalize hE : P3 ++ ports.flatMap portL = P4 at *
  have HE4 := Lib.hid hE
  clear hE
  clear hl5 HRP HOP
  go_wp2_with (fail)
  all_goals try (exfalso; omega)
  refine (numW_any b _ 4 cpu _ HB.out (by decide) (by omega) (by omega) (by omega)).mono ?_
  rintro e w8 ⟨rfl, hb1, hf1⟩
  have HB := Lib.hid hb1
  have HW := Lib.hid (HW.out.trans hf1)
  clear q0 q1 q2 q3 q4 q5 q6 hb1 hf1
  obtain ⟨q0, q1, q2, q3, q4, q5, q6⟩ := HKP.out _ HW.out
  have hl5 : (P4 ++ be 4 cpu.toNat).length ≤ 35184372691832 := by rw [List.length_append, be_length]; omega
  go_wp2_with (fail)
  refine (numW_any b _ 4 mem _ HB.out (by decide) (by omega) (by omega) (by omega)).mono ?_
  rintro e w9 ⟨rfl, hb1, hf1⟩
  have HB := Lib.hid hb1
  have HW := Lib.hid (HW.out.trans hf1)
  clear q0 q1 q2 q3 q4 q5 q6 hb1 hf1
  obtain ⟨q0, q1, q2, q3, q4, q5, q6⟩ := HKP.out _ HW.out
  have hl6 : (P4 ++ be 4 cpu.toNat ++ be 4 mem.toNat).length ≤ 35184372791832 := by rw [List.length_append, be_length]; omega
  go_wp2_with (fail)
  refine (manyW_any b _ env.length _ HB.out (by omega) (by omega)).mono ?_
  rintro e w10 ⟨rfl, hb1, hf1⟩
  have HB := Lib.hid hb1
  have HW := Lib.hid (HW.out.trans hf1)
  clear q0 q1 q2 q3 q4 q5 q6 hb1 hf1
  obtain ⟨q0, q1, q2, q3, q4, q5, q6⟩ := HKP.out _ HW.out
  have hl7 : (P4 ++ be 4 cpu.toNat ++ be 4 mem.toNat ++ be 1 env.length).length ≤ 35184372891832 := by rw [List.length_append, be_length]; omega
  generalize hE : P4 ++ be 4 cpu.toNat ++ be 4 mem.toNat ++ be 1 env.length = P5 at *
  have HE5 := Lib.hid hE
  clear hE
  clear hl4 hl5 hl6
  have HB0 : Hid (BldW b (P5 ++ (env.take 0).flatMap envL) w10) := by rw [Hid, List.take_zero, List.flatMap_nil, List.append_nil]; exact HB.out
  go_wp2
  clear q0 q1 q2 q3 q4 q5 q6
  go_loopw [75] (fun a75 wr => ∃ (k : Nat), a75 = .int .i64 (k : Int) ∧ k ≤ env.length ∧ Hid (BldW b (P5 ++ (env.take k).flatMap envL) wr) ∧ Hid (Wrt b W1 wr)) (fun a75 _ => env.length - (intOf a75).toNat)
  case atStart => exact ⟨0, rfl, Nat.zero_le _, HB0.out, HW.out⟩
  case round =>
  clear HB HB0 HW
  obtain ⟨k, rfl, hk, HB, HW⟩ := hrel
  by_cases hlt : k < env.length
  case pos =>
    obtain ⟨gb, o1, rfl, hc⟩ := erow_form (HRE.out.move (HW.out.fresh HF0.out HBW.out)) hlt
    obtain ⟨c0, c1⟩ := hc k hlt
    have hx := HOE.out _ (List.getElem_mem hlt)
    have HTK := Lib.hid (flat_take envL hlt)
    have hX : (P5 ++ (env.take k).flatMap envL).length ≤ 35184372991832 := by
      have := flat_takele envL env k 4163 16 (fun v hv => by have := HOE.out v hv; simp only [envL, List.length_append, txtL_len]; omega) hle
      rw [List.length_append]; omega
    clear hc
    generalize env[k] = v at *
    obtain ⟨v1, v2⟩ := v
    obtain ⟨hx0, hx1⟩ := hx
    have HPL : Hid (envL (v1, v2) = txtL v1 ++ txtL v2) := rfl
    dsimp only at hx0 hx1 c0 c1
    have HPB := Lib.hid (at_new wr (.cells #[.string v1, .string v2] 130))
    have HF1 := Lib.hid ((Fresh.refl wr).alloc (.cells #[.string v1, .string v2] 130))
    have HW := Lib.hid (HW.out.trans (.of HF1.out (Nat.le_of_lt HB.out.lt)))
    have HB := Lib.hid (HB.out.fresh HF1.out)
    go_wp2_with (fail)
    all_goals try (exfalso; omega)
    generalize wr.alloc (.cells #[.string v1, .string v2] 130) = X1 at *
    generalize wr.heap.size = y at *
    refine (textW_any b _ v1 _ HB.out (by omega) (by omega)).mono ?_
    rintro e w11 ⟨rfl, hb1, hf1⟩
    have HPB := Lib.hid (hf1.keeps _ _ _ HPB.out (by decide) (by decide))
    have HB := Lib.hid hb1
    have HW := Lib.hid (HW.out.trans hf1)
    have r0 := cell_of_at HPB.out (i := 0) rfl
    have r1 := cell_of_at HPB.out (i := 1) rfl
    clear hb1 hf1 c0 c1
    go_wp2_with (fail)
    refine (textW_any b _ v2 _ HB.out (by omega) (by rw [List.length_append, txtL_len]; omega)).mono ?_
    rintro e w12 ⟨rfl, hb1, hf1⟩
    have HB := Lib.hid hb1
    have HW := Lib.hid (HW.out.trans hf1)
    clear hb1 hf1 r0 r1
    go_wp2
    go_roundw
    case rel => exact ⟨k + 1, by simp, by omega, by rw [Hid, HTK.out, HPL.out, ← List.append_assoc, ← List.append_assoc]; exact HB.out, HW.out⟩
    case measure => simp [intOf]; omega
  case neg =>
  obtain rfl : k = env.length := by omega
  have HB : Hid (BldW b (P5 ++ env.flatMap envL) wr) := by
    have := HB.out
    rw [List.take_length] at this; exact this
  go_wp2
  all_goals try (exfalso; omega)
  go_end0
  refine ⟨rfl, ?_, HW0.out.trans HW.out⟩
  rw [HCT.out]
  exact HB.out
end Go.Proofs.YtldncgelghcjeaaGreatDoor.K
namespace Go.Proofs.YtldncgelghcjeaaGreatDoor.K
open Go.ChangeShapes Go.WideShapes Go.ChangeAt Go.RowKit
set_option maxRecDepth 100000

theorem cs_map_take (cs : List CM) (k : Nat) : (cs.take k).map (·.c) = (cs.map (·.c)).take k := List.map_take
set_option maxHeartbeats 8000000 in
theorem podW_any (b : Nat) (l : List UInt8) (m : PM) (w0 w : World) (h : BldW b l w) (hin : m.At w0) (hf : Fresh w0 w) (hb : w0.heap.size ≤ b) (ho : PdOk m.pd) (hl : l.length ≤ 17592186044416) :
    Calls Tryz.prog 47 #[.pointer (some ⟨b, 0, none⟩), m.val] w fun e w' => e = .returned (.tuple #[]) ∧ BldW b (l ++ pd3L m.pd) w' ∧ Wrt b w w' := by
  obtain ⟨name, ns, r, g, host, ca, cc, cs⟩ := m
  have hn : name.size ≤ 253 := ho.name
  have hi : ns.size ≤ 63 := ho.ns
  have hr0 : 0 ≤ r := ho.r0
  have hr1 : r ≤ 2 := ho.r1
  have hg0 : 1 ≤ g := ho.g0
  have hg1 : g ≤ 3600 := ho.g1
  have hlc : cs.length ≤ 16 := by have := ho.l1; simpa [PM.pd] using this
  have HOC : Hid (∀ x ∈ cs, CtOk x.c) := fun x hx => ho.cs _ (List.mem_map_of_mem hx)
  have HROW : Hid (RowAt w0 ca (ccells cs)) := hin.row
  have HIN : Hid (∀ x ∈ cs, x.In w0) := hin.ins
  have hwr := wrap_u64' (r := r) (by omega) (by omega)
  have hwg := wrap_u64' (r := g) (by omega) (by omega)
  have HCT : Hid (l ++ pd3L (PM.pd ⟨name, ns, r, g, host, ca, cc, cs⟩) = l ++ txtL name ++ txtL ns ++ be 1 r.toNat ++ be 2 g.toNat ++ be 1 host.toNat ++ be 1 cs.length ++ (cs.map (·.c)).flatMap ct3L) := by
    rw [Hid, pd3L]; simp only [PM.pd, List.append_assoc, List.length_map]
  have HFL : Hid (∀ W, Calls Tryz.prog 92 #[.bool host] W fun e w' => e = .returned (.string (beS 1 host.toNat)) ∧ Fresh W w') := fun W => flagW_run host W
  have HFE := Lib.hid (be_list 1 host.toNat)
  have hfs : (beS 1 host.toNat).size = 1 := beS_size _ _
  generalize beS 1 host.toNat = FS at *
  dsimp only [PM.val] at *
  have HF0 := Lib.hid (hf.alloc (.cells #[.string name, .string ns, .int .i64 r, .int .i64 g, .bool host, .slice ca cs.length cc] 41))
  have HB : Hid (BldW b l (w.alloc (.cells #[.string name, .string ns, .int .i64 r, .int .i64 g, .bool host, .slice ca cs.length cc] 41))) := h.fresh ((Fresh.refl w).alloc _)
  have HW0 : Hid (Wrt b w (w.alloc (.cells #[.string name, .string ns, .int .i64 r, .int .i64 g, .bool host, .slice ca cs.length cc] 41))) := .of ((Fresh.refl w).alloc _) (Nat.le_of_lt h.lt)
  have HA := Lib.hid (at_new w (.cells #[.string name, .string ns, .int .i64 r, .int .i64 g, .bool host, .slice ca cs.length cc] 41))
  have HBW := Lib.hid hb
  clear h hin hf ho hb
  go_enter Tryz.func47, Tryz.ntmps47
  go_wp2_with (fail)
  generalize w.alloc (.cells #[.string name, .string ns, .int .i64 r, .int .i64 g, .bool host, .slice ca cs.length cc] 41) = W1 at *
  obtain ⟨z, hz⟩ : ∃ z, z = w.heap.size := ⟨_, rfl⟩
  rw [← hz] at HA ⊢
  clear hz
  have HKP : Hid (∀ W, Wrt b W1 W → W.cell? ⟨z, 0, none⟩ = some (.string name) ∧ W.cell? ⟨z, 1, none⟩ = some (.string ns) ∧ W.cell? ⟨z, 2, none⟩ = some (.int .i64 r) ∧ W.cell? ⟨z, 3, none⟩ = some (.int .i64 g) ∧ W.cell? ⟨z, 4, none⟩ = some (.bool host) ∧ W.cell? ⟨z, 5, none⟩ = some (.slice ca cs.length cc)) := fun W f => by
    have k := f.keeps _ _ _ HA.out (by decide) (by decide)
    exact ⟨cell_of_at k rfl, cell_of_at k rfl, cell_of_at k rfl, cell_of_at k rfl, cell_of_at k rfl, cell_of_at k rfl⟩
  have HW : Hid (Wrt b W1 W1) := .refl _ _
  obtain ⟨q0, q1, q2, q3, q4, q5⟩ := HKP.out _ HW.out
  go_wp2_with (fail)
  refine (textW_any b _ name _ HB.out (by omega) (by omega)).mono ?_
  rintro e w1 ⟨rfl, hb1, hf1⟩
  have HB := Lib.hid hb1
  have HW := Lib.hid (HW.out.trans hf1)
  clear q0 q1 q2 q3 q4 q5 hb1 hf1
  obtain ⟨q0, q1, q2, q3, q4, q5⟩ := HKP.out _ HW.out
  have hl1 : (l ++ txtL name).length ≤ 17592186045416 := by rw [List.length_append, txtL_len]; omega
  go_wp2_with (fail)
  refine (textW_any b _ ns _ HB.out (by omega) (by omega)).mono ?_
  rintro e w2 ⟨rfl, hb1, hf1⟩
  have HB := Lib.hid hb1
  have HW := Lib.hid (HW.out.trans hf1)
  clear q0 q1 q2 q3 q4 q5 hb1 hf1
  obtain ⟨q0, q1, q2, q3, q4, q5⟩ := HKP.out _ HW.out
  have hl2 : (l ++ txtL name ++ txtL ns).length ≤ 17592186046416 := by rw [List.length_append, txtL_len]; omega
  go_wp2_with (fail)
  refine (numW_any b _ 1 r _ HB.out (by decide) (by omega) (by omega) (by omega)).mono ?_
  rintro e w3 ⟨rfl, hb1, hf1⟩
  have HB := Lib.hid hb1
  have HW := Lib.hid (HW.out.trans hf1)
  clear q0 q1 q2 q3 q4 q5 hb1 hf1
  obtain ⟨q0, q1, q2, q3, q4, q5⟩ := HKP.out _ HW.out
  have hl3 : (l ++ txtL name ++ txtL ns ++ be 1 r.toNat).length ≤ 17592186047416 := by rw [List.length_append, be_length]; omega
  go_wp2_with (fail)
  refine (numW_any b _ 2 g _ HB.out (by decide) (by omega) (by omega) (by omega)).mono ?_
  rintro e w4 ⟨rfl, hb1, hf1⟩
  have HB := Lib.hid hb1
  have HW := Lib.hid (HW.out.trans hf1)
  clear q0 q1 q2 q3 q4 q5 hb1 hf1
  obtain ⟨q0, q1, q2, q3, q4, q5⟩ := HKP.out _ HW.out
  have hl4 : (l ++ txtL name ++ txtL ns ++ be 1 r.toNat ++ be 2 g.toNat).length ≤ 17592186048416 := by rw [List.length_append, be_length]; omega
  have HL : Hid ((l ++ txtL name ++ txtL ns ++ be 1 r.toNat ++ be 2 g.toNat).length + FS.size ≤ 140737488355328) := by rw [Hid]; omega
  have HL5 : Hid ((l ++ txtL name ++ txtL ns ++ be 1 r.toNat ++ be 2 g.toNat ++ be 1 host.toNat).length ≤ 17592186049416) := by rw [Hid, List.length_append, be_length]; omega
  rw [← HFE.out] at HL5
  generalize hE : l ++ txtL name ++ txtL ns ++ be 1 r.toNat ++ be 2 g.toNat = P0 at *
  have HE0 := Lib.hid hE
  clear hE
  clear hl1 hl2 hl3 hl4
  have HBL := Lib.hid HB.out.lt
  have HB : Hid (BldW b P0 w4.drew) := HB.out
  have HW : Hid (Wrt b W1 w4.drew) := HW.out.trans ⟨(Below.refl _ _).drew, fun _ _ _ h _ _ => h⟩
  go_wp2_with (fail)
  go_region_held3 (fun w' => (w'.cell? ⟨z, 4, none⟩ = some (.bool host))) (go_keep)
    (first
      | (go_at_call 92; (with_reducible refine (HFL.out _).mono ?_); rintro e W5 ⟨rfl, hf⟩; have HW := Lib.hid (HW.out.trans (.of hf (Nat.le_of_lt HB.out.lt))); have HB := Lib.hid (HB.out.fresh hf); obtain ⟨q0, q1, q2, q3, q4, q5⟩ := HKP.out _ HW.out; clear hf)
      | (go_at_call 89; (with_reducible refine (writeW_any b _ FS _ HB.out HL.out).mono ?_); rintro e W5 ⟨rfl, hb3, hf⟩; have HB := Lib.hid hb3; have HW := Lib.hid (HW.out.trans hf); obtain ⟨q0, q1, q2, q3, q4, q5⟩ := HKP.out _ HW.out; clear hf hb3))
  go_wp2_with (fail)
  refine (manyW_any b _ cs.length _ HB.out (by omega) (by have := HL5.out; omega)).mono ?_
  rintro e w6 ⟨rfl, hb1, hf1⟩
  have HB := Lib.hid hb1
  have HW := Lib.hid (HW.out.trans hf1)
  clear q0 q1 q2 q3 q4 q5 hb1 hf1
  obtain ⟨q0, q1, q2, q3, q4, q5⟩ := HKP.out _ HW.out
  have hl6 : (P0 ++ FS.data.toList ++ be 1 cs.length).length ≤ 17592186050416 := by have := HL5.out; rw [List.length_append, be_length]; omega
  generalize hE : P0 ++ FS.data.toList ++ be 1 cs.length = P1 at *
  have HE1 := Lib.hid hE
  clear hE
  have HB0 : Hid (BldW b (P1 ++ ((cs.map (·.c)).take 0).flatMap ct3L) w6) := by rw [Hid, List.take_zero, List.flatMap_nil, List.append_nil]; exact HB.out
  clear HL HL5 HFL hfs
  go_wp2
  clear q0 q1 q2 q3 q4 q5
  go_loopw [39] (fun a39 wr => ∃ (k : Nat), a39 = .int .i64 (k : Int) ∧ k ≤ cs.length ∧ Hid (BldW b (P1 ++ ((cs.map (·.c)).take k).flatMap ct3L) wr) ∧ Hid (Wrt b W1 wr)) (fun a39 _ => cs.length - (intOf a39).toNat)
  case atStart => exact ⟨0, rfl, Nat.zero_le _, HB0.out, HW.out⟩
  case round =>
  clear HB HB0 HW
  obtain ⟨k, rfl, hk, HB, HW⟩ := hrel
  by_cases hlt : k < cs.length
  case pos =>
    obtain ⟨gb, o1, rfl, hc⟩ := crow_form (HROW.out.move (HW.out.fresh HF0.out HBW.out)) hlt
    obtain ⟨c0, c1, c2, c3, c4, c5, c6⟩ := hc k hlt
    have HX := Lib.hid (HOC.out _ (List.getElem_mem hlt))
    have HXI := Lib.hid (HIN.out _ (List.getElem_mem hlt))
    have HTK : Hid (((cs.map (·.c)).take (k + 1)).flatMap ct3L = ((cs.map (·.c)).take k).flatMap ct3L ++ ct3L cs[k].c) := by
      rw [Hid, flat_take ct3L (by simpa using hlt)]; simp
    have hX : (P1 ++ ((cs.map (·.c)).take k).flatMap ct3L).length ≤ 17592196050416 := by
      have := flat_takele ct3L (cs.map (·.c)) k 140000 16 (fun x hx => by
        obtain ⟨y, hy, rfl⟩ := List.mem_map.1 hx
        exact ct3L_len (HOC.out y hy)) (by simpa using hlc)
      rw [List.length_append]; omega
    clear hc
    generalize cs[k] = x at *
    obtain ⟨⟨xn, xi, xcmd, xports, xcpu, xmem, xenv⟩, xa, xac, xp, xpc, xe, xec⟩ := x
    dsimp only at c0 c1 c2 c3 c4 c5 c6
    have HCW : Hid (∀ W, Fresh wr W → Calls Tryz.prog 94 #[.pointer (some ⟨b, 0, none⟩), CM.val ⟨⟨xn, xi, xcmd, xports, xcpu, xmem, xenv⟩, xa, xac, xp, xpc, xe, xec⟩] W fun e w' => e = .returned (.tuple #[]) ∧ BldW b (P1 ++ ((cs.map (·.c)).take k).flatMap ct3L ++ ct3L ⟨xn, xi, xcmd, xports, xcpu, xmem, xenv⟩) w' ∧ Wrt b W w') := fun W f =>
      contW_any b _ ⟨⟨xn, xi, xcmd, xports, xcpu, xmem, xenv⟩, xa, xac, xp, xpc, xe, xec⟩ w0 W (HB.out.fresh f) HXI.out ((HW.out.fresh HF0.out HBW.out).trans f) HBW.out HX.out (by omega)
    dsimp only [CM.val] at HCW
    dsimp only at HTK
    generalize ct3L ⟨xn, xi, xcmd, xports, xcpu, xmem, xenv⟩ = XL at *
    have HF1 := Lib.hid ((Fresh.refl wr).alloc (.cells #[.string xn, .string xi, .slice xa xcmd.length xac, .slice xp xports.length xpc, .int .i64 xcpu, .int .i64 xmem, .slice xe xenv.length xec] 126))
    have HW := Lib.hid (HW.out.trans (.of HF1.out (Nat.le_of_lt HB.out.lt)))
    clear HX HXI hX
    go_wp2_with (fail)
    all_goals try (exfalso; omega)
    refine (HCW.out _ HF1.out).mono ?_
    rintro e w7 ⟨rfl, hb1, hf1⟩
    have HB := Lib.hid hb1
    have HW := Lib.hid (HW.out.trans hf1)
    clear hb1 hf1 c0 c1 c2 c3 c4 c5 c6
    go_wp2
    go_roundw
    case rel => exact ⟨k + 1, by simp, by omega, by rw [Hid, HTK.out, ← List.append_assoc]; exact HB.out, HW.out⟩
    case measure => simp [intOf]; omega
  case neg =>
  obtain rfl : k = cs.length := by omega
  have HB : Hid (BldW b (P1 ++ (cs.map (·.c)).flatMap ct3L) wr) := by
    have := HB.out
    rw [List.take_of_length_le (by simp)] at this; exact this
  go_wp2
  all_goals try (exfalso; omega)
  go_end0
  refine ⟨rfl, ?_, HW0.out.trans HW.out⟩
  have h := HB.out
  rw [← HE1.out, HFE.out] at h
  rw [HCT.out]
  exact h
end Go.Proofs.YtldncgelghcjeaaGreatDoor.K
