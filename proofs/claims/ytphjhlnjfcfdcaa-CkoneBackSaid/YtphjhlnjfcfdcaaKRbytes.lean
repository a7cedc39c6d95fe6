/-
  The bytes of a state of version 1, by the document.
-/
import Derived.Test.YtphjhlnjfcfdcaaKEncode
namespace Go.Proofs.Ytphjhlnjfcfdcaa
open Go.ChangeShapes Go.WideShapes Go.ChangeAt Go.RowKit
set_option maxRecDepth 100000

theorem conv_byte (r : Int) (h0 : 0 ≤ r) (h1 : r ≤ 255) (W : World) (g : Nat) (h : W.cell? ⟨g, 0, none⟩ = some (.int .u8 r)) :
    (convert 69 9 (.slice (some ⟨g, 0, none⟩) 1 1)).run Try.prog W = .ok (.string (beS 1 r.toNat)) W := by
  have e : ((dig r.toNat 0).toNat : Int) = r := by rw [dig_toNat]; simp; omega
  exact run_convert_bytes_back (P := Try.prog) W 69 9 5 ⟨g, 0, none⟩ 1 [dig r.toNat 0] Try.underlying69 Try.underlying5 Try.underlying9 (fun j hj => by
    rw [addr_add0]
    simp at hj
    subst hj
    rw [h]
    show some (Value.int IntKind.u8 r) = some (Value.int IntKind.u8 ((dig r.toNat 0).toNat : Int))
    rw [e])
theorem rput_at (n : Int) (v : Int) (w : World) (h : okN n = true) (h0 : 0 ≤ v) (h1 : v < 18446744073709551616) :
    Calls Try.prog 42 #[.int .i64 n, .int .u64 v] w fun e w' => e = .returned (.string (beS n.toNat v.toNat)) ∧ Fresh w w' := rput_yes n v w h h0 h1
theorem rtext_tx (s : ByteArray) (w : World) (h : s.size ≤ 4096) : Calls Try.prog 43 #[.string s] w fun e w' => e = .returned (.string (tx (txtL s))) ∧ Fresh w w' := by
  rw [← txt_tx]; exact rtext_ok s w h
set_option maxHeartbeats 8000000 in
theorem rbytes_any (seq : Int) (a : Option Addr) (l : List P1) (c : Nat) (w : World) (h : RowAt w a (p1s l)) (hf : ∀ p ∈ l, p.Fit 255) (hlen : l.length ≤ 1024) (hs0 : 0 ≤ seq) (hs1 : seq ≤ 4294967295) :
    Calls Try.prog 15 #[st1 seq a l.length c] w fun e w' => e = .returned (.string (tx (enc1L seq l))) ∧ Fresh w w' := by
  have HA := Lib.hid (at_new w (.cells #[.int .u32 seq, .slice a l.length c] 30))
  have HF0 := Lib.hid ((Fresh.refl w).alloc (.cells #[.int .u32 seq, .slice a l.length c] 30))
  have HROW := Lib.hid (h.move HF0.out)
  have HFT := Lib.hid hf
  have HENC : Hid (enc1L seq l = be 4 seq.toNat ++ (be 2 l.length ++ l.flatMap podL)) := rfl
  have HP4 := Lib.hid (fun W => rput_yes 4 seq W (by decide) hs0 (by omega))
  have HP2 := Lib.hid (fun W => rput_yes 2 (l.length : Int) W (by decide) (by omega) (by omega))
  have hw := wrap_u64' hs0 (by omega)
  have hw2 : IntKind.u64.wrap (l.length : Int) = (l.length : Int) := wrap_u64' (by omega) (by omega)
  have HH : Hid (beS 4 seq.toNat ++ beS 2 l.length = tx (be 4 seq.toNat ++ (be 2 l.length ++ (l.take 0).flatMap podL))) := by
    rw [Hid, beS_tx, beS_tx, tx_app]; simp
  rw [show (4 : Int).toNat = 4 from rfl] at HP4
  rw [show (2 : Int).toNat = 2 from rfl, Int.toNat_natCast] at HP2
  have y1 : (beS 4 seq.toNat).size = 4 := beS_size _ _
  have y2 : (beS 2 l.length).size = 2 := beS_size _ _
  generalize beS 4 seq.toNat = S4 at *
  generalize beS 2 l.length = S2 at *
  have ah := add_run S4 S2 _ (by omega) HH.out
  dsimp only [st1] at *
  clear h hf
  go_enter Try.func15, Try.ntmps15
  go_wp2_with (fail)
  generalize w.alloc (.cells #[.int .u32 seq, .slice a l.length c] 30) = W1 at *
  obtain ⟨z, hz⟩ : ∃ z, z = w.heap.size := ⟨_, rfl⟩
  rw [← hz] at HA ⊢
  clear hz
  have HKP : Hid (∀ W, Fresh W1 W → W.cell? ⟨z, 0, none⟩ = some (.int .u32 seq) ∧ W.cell? ⟨z, 1, none⟩ = some (.slice a l.length c)) := fun W f =>
    ⟨(st1_box (f.at HA.out)).1, (st1_box (f.at HA.out)).2.1⟩
  obtain ⟨k0, k1⟩ := HKP.out W1 (.refl _)
  have HK : Hid (Fresh W1 W1.drew) := (Fresh.refl W1).drew
  go_region_held3 (fun w' => (w'.cell? ⟨z, 0, none⟩ = some (.int .u32 seq) ∧ w'.cell? ⟨z, 1, none⟩ = some (.slice a l.length c))) (go_keep)
    (first
      | (go_at_call 42; (with_reducible refine (HP4.out _).mono ?_); rintro e W2 ⟨rfl, hf⟩; have HK := Lib.hid (HK.out.trans hf); obtain ⟨k0, k1⟩ := HKP.out _ HK.out; clear hf)
      | (go_at_call 42; (with_reducible refine (HP2.out _).mono ?_); rintro e W2 ⟨rfl, hf⟩; have HK := Lib.hid (HK.out.trans hf); obtain ⟨k0, k1⟩ := HKP.out _ HK.out; clear hf))
  go_wp2
  clear k0 k1
  go_loopw [3, 4] (fun a3 a4 wr => ∃ (k : Nat), a4 = .int .i64 (k : Int) ∧ a3 = .string (tx (be 4 seq.toNat ++ (be 2 l.length ++ (l.take k).flatMap podL))) ∧ k ≤ l.length ∧ Hid (Fresh W1 wr)) (fun _ a4 _ => l.length - (intOf a4).toNat)
  case atStart => exact ⟨0, rfl, rfl, Nat.zero_le _, HK.out⟩
  case round =>
    clear HK
    obtain ⟨k, rfl, rfl, hk, HF⟩ := hrel
    obtain ⟨q0, q1⟩ := HKP.out _ HF.out
    by_cases hlt : k < l.length
    · obtain ⟨g, o1, rfl, hc⟩ := p1_form (HROW.out.move HF.out) hlt
      obtain ⟨c0, c1, c2, c3⟩ := hc k hlt
      have HFI := Lib.hid (HFT.out _ (List.getElem_mem hlt))
      have HTK : Hid (be 4 seq.toNat ++ (be 2 l.length ++ (l.take (k + 1)).flatMap podL) = (be 4 seq.toNat ++ (be 2 l.length ++ (l.take k).flatMap podL)) ++ podL l[k]) := by
        rw [Hid, List.take_succ_eq_append_getElem hlt, List.flatMap_append]; simp
      have hX : (tx (be 4 seq.toNat ++ (be 2 l.length ++ (l.take k).flatMap podL))).size ≤ 1000000 := by
        have h1 := flat_le podL 772 (l.take k) (fun p hp => podL_len (HFT.out p (List.mem_of_mem_take hp)))
        have h3 : (l.take k).length * 772 ≤ 1024 * 772 := Nat.mul_le_mul (by rw [List.length_take]; omega) (Nat.le_refl _)
        rw [tx_size]
        simp only [List.length_append, be_length]
        omega
      have HXX : Hid (tx (be 4 seq.toNat ++ (be 2 l.length ++ (l.take (k + 1)).flatMap podL)) = tx (be 4 seq.toNat ++ (be 2 l.length ++ (l.take k).flatMap podL)) ++ tx (podL l[k])) := by
        rw [Hid, HTK.out, tx_app]
      rw [← pod_parts] at HXX
      clear hc HTK
      generalize tx (be 4 seq.toNat ++ (be 2 l.length ++ (l.take k).flatMap podL)) = X at *
      obtain ⟨X', hX'⟩ : ∃ X', X' = tx (be 4 seq.toNat ++ (be 2 l.length ++ (l.take (k + 1)).flatMap podL)) := ⟨_, rfl⟩
      rw [← hX'] at HXX
      have HX' := Lib.hid hX'
      clear hX'
      generalize l[k] = p at *
      obtain ⟨file, name, image, r⟩ := p
      have H1 := Lib.hid (fun W => rtext_tx file W (Nat.le_trans HFI.out.file (by omega)))
      have H2 := Lib.hid (fun W => rtext_tx name W (Nat.le_trans HFI.out.name (by omega)))
      have H3 := Lib.hid (fun W => rtext_tx image W (Nat.le_trans HFI.out.image (by omega)))
      have hr0 : 0 ≤ r := HFI.out.r0
      have hr1 : r ≤ 255 := HFI.out.r1
      have hcv := conv_byte r hr0 hr1
      have z1 : (tx (txtL file)).size ≤ 5000 := by rw [tx_size, txtL_len]; have := HFI.out.file; dsimp only at this; omega
      have z2 : (tx (txtL name)).size ≤ 5000 := by rw [tx_size, txtL_len]; have := HFI.out.name; dsimp only at this; omega
      have z3 : (tx (txtL image)).size ≤ 5000 := by rw [tx_size, txtL_len]; have := HFI.out.image; dsimp only at this; omega
      have z4 : (beS 1 r.toNat).size = 1 := beS_size _ _
      dsimp only at *
      generalize tx (txtL file) = A at *
      generalize tx (txtL name) = B at *
      generalize tx (txtL image) = C at *
      generalize beS 1 r.toNat = D at *
      have HX5 : Hid (X ++ A ++ B ++ C ++ D = X') := by rw [Hid, HXX.out]; apply list_ext; simp only [app_list, List.append_assoc]
      have s1 : (X ++ A).size ≤ 1010000 := by rw [ByteArray.size_append]; omega
      have s2 : (X ++ A ++ B).size ≤ 1020000 := by rw [ByteArray.size_append]; omega
      have s3 : (X ++ A ++ B ++ C).size ≤ 1030000 := by rw [ByteArray.size_append]; omega
      have a1 := add_run X A _ (by omega) rfl
      have a2 := add_run (X ++ A) B _ (by omega) rfl
      have a3 := add_run (X ++ A ++ B) C _ (by omega) rfl
      have a4 := add_run (X ++ A ++ B ++ C) D _ (by omega) HX5.out
      clear HXX HX5
      generalize X ++ A ++ B ++ C = XABC at *
      generalize X ++ A ++ B = XAB at *
      generalize X ++ A = XA at *
      have HP := Lib.hid (at_new wr (.cells #[.string file, .string name, .string image, .int .u8 r] 67))
      have HF1 := Lib.hid ((Fresh.refl wr).alloc (.cells #[.string file, .string name, .string image, .int .u8 r] 67))
      go_wp2_with (fail)
      all_goals try (exfalso; omega)
      generalize wr.alloc (.cells #[.string file, .string name, .string image, .int .u8 r] 67) = V1 at *
      obtain ⟨y, hy⟩ : ∃ y, y = wr.heap.size := ⟨_, rfl⟩
      rw [← hy] at HP ⊢
      clear hy q0 q1 c0 c1 c2 c3
      have HKQ : Hid (∀ W, Fresh V1 W → W.cell? ⟨y, 0, none⟩ = some (.string file) ∧ W.cell? ⟨y, 1, none⟩ = some (.string name) ∧ W.cell? ⟨y, 2, none⟩ = some (.string image) ∧ W.cell? ⟨y, 3, none⟩ = some (.int .u8 r)) := fun W f =>
        (p1_box (p := ⟨file, name, image, r⟩) (f.at HP.out)).1
      obtain ⟨k0, k1, k2, k3⟩ := HKQ.out V1 (.refl _)
      have HK : Hid (Fresh V1 V1.drew) := (Fresh.refl V1).drew
      go_region_held3 (fun w' => (w'.cell? ⟨y, 0, none⟩ = some (.string file) ∧ w'.cell? ⟨y, 1, none⟩ = some (.string name) ∧ w'.cell? ⟨y, 2, none⟩ = some (.string image) ∧ w'.cell? ⟨y, 3, none⟩ = some (.int .u8 r))) (go_keep)
        (first
          | (go_at_call 43; (with_reducible refine (H1.out _).mono ?_); rintro e W2 ⟨rfl, hf⟩; (try (have kc := hf.cell kc)); (try (have kc := hf.cell (cell_of_at (at_new _ (.cells #[.int .u8 r] 5)) (i := 0) (v := .int .u8 r) rfl))); (first | (have HK := Lib.hid (HK.out.trans hf)) | (have HK := Lib.hid ((HK.out.alloc _).trans hf))); obtain ⟨k0, k1, k2, k3⟩ := HKQ.out _ HK.out; clear hf)
          | (go_at_call 43; (with_reducible refine (H2.out _).mono ?_); rintro e W2 ⟨rfl, hf⟩; (try (have kc := hf.cell kc)); (try (have kc := hf.cell (cell_of_at (at_new _ (.cells #[.int .u8 r] 5)) (i := 0) (v := .int .u8 r) rfl))); (first | (have HK := Lib.hid (HK.out.trans hf)) | (have HK := Lib.hid ((HK.out.alloc _).trans hf))); obtain ⟨k0, k1, k2, k3⟩ := HKQ.out _ HK.out; clear hf)
          | (go_at_call 43; (with_reducible refine (H3.out _).mono ?_); rintro e W2 ⟨rfl, hf⟩; (try (have kc := hf.cell kc)); (try (have kc := hf.cell (cell_of_at (at_new _ (.cells #[.int .u8 r] 5)) (i := 0) (v := .int .u8 r) rfl))); (first | (have HK := Lib.hid (HK.out.trans hf)) | (have HK := Lib.hid ((HK.out.alloc _).trans hf))); obtain ⟨k0, k1, k2, k3⟩ := HKQ.out _ HK.out; clear hf))
      all_goals go_wp2
      all_goals go_roundw
      all_goals (first | exact ⟨k + 1, by simp, by rw [HX'.out], by omega, (HF.out.trans HF1.out).trans HK.out⟩ | exact ⟨k + 1, by simp, by rw [HX'.out], by omega, (HF.out.trans HF1.out).trans (HK.out.alloc _)⟩ | (simp [intOf]; omega))
    · obtain rfl : k = l.length := by omega
      have HR : Hid (be 4 seq.toNat ++ (be 2 l.length ++ (l.take l.length).flatMap podL) = enc1L seq l) := by rw [Hid, HENC.out, List.take_length]
      go_wp2
      all_goals try (exfalso; omega)
      go_ret
      exact ⟨by rw [HR.out]; rfl, HF0.out.trans HF.out⟩
end Go.Proofs.Ytphjhlnjfcfdcaa
