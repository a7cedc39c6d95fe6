/-
  The bytes of a state of version 1, by the document.
-/
import Derived.Test.YtphjhlnjfcfdcaaKEncode
import Derived.Test.YtphjhlnjfcfdcaaKFlow
namespace Go.Proofs.Ytphjhlnjfcfdcaa
open Go.ChangeShapes Go.WideShapes Go.ChangeAt Go.RowKit
set_option maxRecDepth 100000
set_option linter.unusedSimpArgs false

theorem conv_byte (r : Int) (h0 : 0 ≤ r) (h1 : r ≤ 255) (W : World) (g : Nat) (h : W.cell? ⟨g, 0, none⟩ = some (.int .u8 r)) :
    (convert 69 9 (.slice (some ⟨g, 0, none⟩) 1 1)).run Try.prog W = .ok (.string (beS 1 r.toNat)) W := by
  have e : ((dig r.toNat 0).toNat : Int) = r := by rw [dig_toNat]; simp; omega
  exact run_convert_bytes_back (P := Try.prog) W 69 9 5 ⟨g, 0, none⟩ 1 [dig r.toNat 0] Try.underlying69 Try.underlying5 Try.underlying9 (fun j hj => by
    rw [addr_add0]
    simp at hj
    subst hj
    rw [h]
    show some (Value.int IntKind.u8 r) = some (Value.int IntKind.u8 ((dig r.toNat 0).toNat : Int))
    rw [e])
theorem rput_at (n : Int) (v : Int) (w : World) (h : okN n = true) (h0 : 0 ≤ v) (h1 : v < 18446744073709551616) :
    Calls Try.prog 42 #[.int .i64 n, .int .u64 v] w fun e w' => e = .returned (.string (beS n.toNat v.toNat)) ∧ Fresh w w' := rput_yes n v w h h0 h1
theorem rtext_tx (s : ByteArray) (w : World) (h : s.size ≤ 4096) : Calls Try.prog 43 #[.string s] w fun e w' => e = .returned (.string (tx (txtL s))) ∧ Fresh w w' := by
  rw [← txt_tx]; exact rtext_ok s w h
set_option maxHeartbeats 8000000 in
theorem rbytes_any (seq : Int) (a : Option Addr) (l : List P1) (c : Nat) (w : World) (h : RowAt w a (p1s l)) (hf : ∀ p ∈ l, p.Fit 255) (hlen : l.length ≤ 1024) (hs0 : 0 ≤ seq) (hs1 : seq ≤ 4294967295) :
    Calls Try.prog 15 #[st1 seq a l.length c] w fun e w' => e = .returned (.string (tx (enc1L seq l))) ∧ Fresh w w' := by
  have HA := Lib.hid (at_new w (.cells #[.int .u32 seq, .slice a l.length c] 30))
  have HF0 := Lib.hid ((Fresh.refl w).alloc (.cells #[.int .u32 seq, .slice a l.length c] 30))
  have HROW := Lib.hid (h.move HF0.out)
  have HFT := Lib.hid hf
  have HENC : Hid (enc1L seq l = be 4 seq.toNat ++ (be 2 l.length ++ l.flatMap podL)) := rfl
  have HP4 := Lib.hid (fun W => rput_yes 4 seq W (by decide) hs0 (by omega))
  have HP2 := Lib.hid (fun W => rput_yes 2 (l.length : Int) W (by decide) (by omega) (by omega))
  have hw := wrap_u64' hs0 (by omega)
  have hw2 : IntKind.u64.wrap (l.length : Int) = (l.length : Int) := wrap_u64' (by omega) (by omega)
  have HH : Hid (beS 4 seq.toNat ++ beS 2 l.length = tx (be 4 seq.toNat ++ (be 2 l.length ++ (l.take 0).flatMap podL))) := by
    rw [Hid, beS_tx, beS_tx, tx_app]; simp
  rw [show (4 : Int).toNat = 4 from rfl] at HP4
  rw [show (2 : Int).toNat = 2 from rfl, Int.toNat_natCast] at HP2
  have y1 : (beS 4 seq.toNat).size = 4 := beS_size _ _
  have y2 : (beS 2 l.length).size = 2 := beS_size _ _
  generalize beS 4 seq.toNat = S4 at *
  generalize beS 2 l.length = S2 at *
  have ah := add_run S4 S2 _ (by omega) HH.out
  dsimp only [st1] at *
  clear h hf
  go_enter Try.func15, Try.ntmps15
  go_wp2_with (fail)
  generalize w.alloc (.cells #[.int .u32 seq, .slice a l.length c] 30) = W1 at *
  obtain ⟨z, hz⟩ : ∃ z, z = w.heap.size := ⟨_, rfl⟩
  rw [← hz] at HA ⊢
  clear hz
  have HKP : Hid (∀ W, Fresh W1 W → W.cell? ⟨z, 0, none⟩ = some (.int .u32 seq) ∧ W.cell? ⟨z, 1, none⟩ = some (.slice a l.length c)) := fun W f =>
    ⟨(st1_box (f.at HA.out)).1, (st1_box (f.at HA.out)).2.1⟩
  obtain ⟨k0, k1⟩ := HKP.out W1 (.refl _)
  have HK : Hid (Fresh W1 W1.drew) := (Fresh.refl W1).drew
  go_region_held3 (fun w' => (w'.cell? ⟨z, 0, none⟩ = some (.int .u32 seq) ∧ w'.cell? ⟨z, 1, none⟩ = some (.slice a l.length c))) (go_keep)
    (first
      | (go_at_call 42; (with_reducible refine (HP4.out _).mono ?_); rintro e W2 ⟨rfl, hf⟩; have HK := Lib.hid (HK.out.trans hf); obtain ⟨k0, k1⟩ := HKP.out _ HK.out; clear hf)
      | (go_at_call 42; (with_reducible refine (HP2.out _).mono ?_); rintro e W2 ⟨rfl, hf⟩; have HK := Lib.hid (HK.out.trans hf); obtain ⟨k0, k1⟩ := HKP.out _ HK.out; clear hf))
  go_wp2
  clear k0 k1
  go_loopw [3, 4] (fun a3 a4 wr => ∃ (k : Nat), a4 = .int .i64 (k : Int) ∧ a3 = .string (tx (be 4 seq.toNat ++ (be 2 l.length ++ (l.take k).flatMap podL))) ∧ k ≤ l.length ∧ Hid (Fresh W1 wr)) (fun _ a4 _ => l.length - (intOf a4).toNat)
  case atStart => exact ⟨0, rfl, rfl, Nat.zero_le _, HK.out⟩
  case round =>
    clear HK
    obtain ⟨k, rfl, rfl, hk, HF⟩ := hrel
    obtain ⟨q0, q1⟩ := HKP.out _ HF.out
    by_cases hlt : k < l.length
    · obtain ⟨g, o1, rfl, hc⟩ := p1_form (HROW.out.move HF.out) hlt
      obtain ⟨c0, c1, c2, c3⟩ := hc k hlt
      have HFI := Lib.hid (HFT.out _ (List.getElem_mem hlt))
      have HTK : Hid (be 4 seq.toNat ++ (be 2 l.length ++ (l.take (k + 1)).flatMap podL) = (be 4 seq.toNat ++ (be 2 l.length ++ (l.take k).flatMap podL)) ++ podL l[k]) := by
        rw [Hid, List.take_succ_eq_append_getElem hlt, List.flatMap_append]; simp
      have hX : (tx (be 4 seq.toNat ++ (be 2 l.length ++ (l.take k).flatMap podL))).size ≤ 1000000 := by
        have h1 := flat_le podL 772 (l.take k) (fun p hp => podL_len (HFT.out p (List.mem_of_mem_take hp)))
        have h3 : (l.take k).length * 772 ≤ 1024 * 772 := Nat.mul_le_mul (by rw [List.length_take]; omega) (Nat.le_refl _)
        rw [tx_size]
        simp only [List.length_append, be_length]
        omega
      have HXX : Hid (tx (be 4 seq.toNat ++ (be 2 l.length ++ (l.take (k + 1)).flatMap podL)) = tx (be 4 seq.toNat ++ (be 2 l.length ++ (l.take k).flatMap podL)) ++ tx (podL l[k])) := by
        rw [Hid, HTK.out, tx_app]
      rw [← pod_parts] at HXX
      clear hc HTK
      generalize tx (be 4 seq.toNat ++ (be 2 l.length ++ (l.take k).flatMap podL)) = X at *
      obtain ⟨X', hX'⟩ : ∃ X', X' = tx (be 4 seq.toNat ++ (be 2 l.length ++ (l.take (k + 1)).flatMap podL)) := ⟨_, rfl⟩
      rw [← hX'] at HXX
      have HX' := Lib.hid hX'
      clear hX'
      generalize l[k] = p at *
      obtain ⟨file, name, image, r⟩ := p
      have H1 := Lib.hid (fun W => rtext_tx file W (Nat.le_trans HFI.out.file (by omega)))
      have H2 := Lib.hid (fun W => rtext_tx name W (Nat.le_trans HFI.out.name (by omega)))
      have H3 := Lib.hid (fun W => rtext_tx image W (Nat.le_trans HFI.out.image (by omega)))
      have hr0 : 0 ≤ r := HFI.out.r0
      have hr1 : r ≤ 255 := HFI.out.r1
      have hcv := conv_byte r hr0 hr1
      have z1 : (tx (txtL file)).size ≤ 5000 := by rw [tx_size, txtL_len]; have := HFI.out.file; dsimp only at this; omega
      have z2 : (tx (txtL name)).size ≤ 5000 := by rw [tx_size, txtL_len]; have := HFI.out.name; dsimp only at this; omega
      have z3 : (tx (txtL image)).size ≤ 5000 := by rw [tx_size, txtL_len]; have := HFI.out.image; dsimp only at this; omega
      have z4 : (beS 1 r.toNat).size = 1 := beS_size _ _
      dsimp only at *
      generalize tx (txtL file) = A at *
      generalize tx (txtL name) = B at *
      generalize tx (txtL image) = C at *
      generalize beS 1 r.toNat = D at *
      have HX5 : Hid (X ++ A ++ B ++ C ++ D = X') := by rw [Hid, HXX.out]; apply list_ext; simp only [app_list, List.append_assoc]
      have s1 : (X ++ A).size ≤ 1010000 := by rw [ByteArray.size_append]; omega
      have s2 : (X ++ A ++ B).size ≤ 1020000 := by rw [ByteArray.size_append]; omega
      have s3 : (X ++ A ++ B ++ C).size ≤ 1030000 := by rw [ByteArray.size_append]; omega
      have a1 := add_run X A _ (by omega) rfl
      have a2 := add_run (X ++ A) B _ (by omega) rfl
      have a3 := add_run (X ++ A ++ B) C _ (by omega) rfl
      have a4 := add_run (X ++ A ++ B ++ C) D _ (by omega) HX5.out
      clear HXX HX5
      generalize X ++ A ++ B ++ C = XABC at *
      generalize X ++ A ++ B = XAB at *
      generalize X ++ A = XA at *
      have HP := Lib.hid (at_new wr (.cells #[.string file, .string name, .string image, .int .u8 r] 67))
      have HF1 := Lib.hid ((Fresh.refl wr).alloc (.cells #[.string file, .string name, .string image, .int .u8 r] 67))
      go_wp2_with (fail)
      all_goals try (exfalso; omega)
      generalize wr.alloc (.cells #[.string file, .string name, .string image, .int .u8 r] 67) = V1 at *
      obtain ⟨y, hy⟩ : ∃ y, y = wr.heap.size := ⟨_, rfl⟩
      rw [← hy] at HP ⊢
      clear hy q0 q1 c0 c1 c2 c3
      have HKQ : Hid (∀ W, Fresh V1 W → W.cell? ⟨y, 0, none⟩ = some (.string file) ∧ W.cell? ⟨y, 1, none⟩ = some (.string name) ∧ W.cell? ⟨y, 2, none⟩ = some (.string image) ∧ W.cell? ⟨y, 3, none⟩ = some (.int .u8 r)) := fun W f =>
        (p1_box (p := ⟨file, name, image, r⟩) (f.at HP.out)).1
      obtain ⟨k0, k1, k2, k3⟩ := HKQ.out V1 (.refl _)
      have HK : Hid (Fresh V1 V1.drew) := (Fresh.refl V1).drew
      rename_i KK hKK
      refine flow_region [some (Value.string X), some (Value.pointer (some ⟨y, 0, none⟩)), some (Value.string file), some (Value.string A), some (Value.string XA), some (Value.pointer (some ⟨y, 1, none⟩)), some (Value.string name), some (Value.string B), some (Value.string XAB), some (Value.pointer (some ⟨y, 2, none⟩)), some (Value.string image), some (Value.string C), some (Value.string XABC), some (Value.pointer (some ⟨y, 3, none⟩)), some (Value.int .u8 r), none, some (Value.string D), some (Value.string X'), some (Value.string X')] (fun _ v W => ∃ g, v = .slice (some ⟨g, 0, none⟩) 1 1 ∧ W.cell? ⟨g, 0, none⟩ = some (.int .u8 r)) rfl (n := 47) rfl (by decide +kernel) (fun _ _ _ _ h f => by obtain ⟨g, e, hc⟩ := h; exact ⟨g, e, f.cell hc⟩) ⟨?_, ?_, ?_, ?_, ?_, ?_, ?_, ?_, ?_, ?_, ?_, ?_, ?_, ?_, ?_, ?_, ?_, ?_, ?_, trivial⟩ ?_
      · intro a W hf hin hst
        have g3 := ev_get (show a.eval (.tmp 3) = Value.string X from hst 3 (by decide +kernel))
        refine .inl ⟨Value.string X, W, ?_, .refl _, rfl⟩
        simp [execOp, g3, go_sem]
      · intro a W hf hin hst
        have g5 := ev_get (show a.eval (.tmp 5) = Value.pointer (some ⟨y, 0, none⟩) from hst 5 (by decide +kernel))
        refine .inl ⟨Value.pointer (some ⟨y, 0, none⟩), W, ?_, .refl _, rfl⟩
        simp [execOp, g5, go_sem]
      · intro a W hf hin hst
        obtain ⟨k0, k1, k2, k3⟩ := HKQ.out W (HK.out.trans hf)
        have g29 := ev_get (show a.eval (.tmp 29) = Value.pointer (some ⟨y, 0, none⟩) from hin 1 29 (by decide +kernel) (by decide +kernel))
        refine .inl ⟨Value.string file, W, ?_, .refl _, rfl⟩
        simp [execOp, g29, go_sem, k0, k1, k2, k3]
      · intro a W hf hin hst
        have g30 := ev_get (show a.eval (.tmp 30) = Value.string file from hin 2 30 (by decide +kernel) (by decide +kernel))
        exact .inr ⟨43, #[.string file], by simp [execOp, g30, go_sem], (H1.out W).mono (fun e V h => ⟨_, h.1, h.2, rfl⟩)⟩
      · intro a W hf hin hst
        have g28 := ev_get (show a.eval (.tmp 28) = Value.string X from hin 0 28 (by decide +kernel) (by decide +kernel))
        have g31 := ev_get (show a.eval (.tmp 31) = Value.string A from hin 3 31 (by decide +kernel) (by decide +kernel))
        refine .inl ⟨Value.string XA, W, ?_, .refl _, rfl⟩
        simp [execOp, g28, g31, go_sem, a1]
      · intro a W hf hin hst
        have g5 := ev_get (show a.eval (.tmp 5) = Value.pointer (some ⟨y, 0, none⟩) from hst 5 (by decide +kernel))
        refine .inl ⟨Value.pointer (some ⟨y, 1, none⟩), W, ?_, .refl _, rfl⟩
        simp [execOp, g5, go_sem]
      · intro a W hf hin hst
        obtain ⟨k0, k1, k2, k3⟩ := HKQ.out W (HK.out.trans hf)
        have g33 := ev_get (show a.eval (.tmp 33) = Value.pointer (some ⟨y, 1, none⟩) from hin 5 33 (by decide +kernel) (by decide +kernel))
        refine .inl ⟨Value.string name, W, ?_, .refl _, rfl⟩
        simp [execOp, g33, go_sem, k0, k1, k2, k3]
      · intro a W hf hin hst
        have g34 := ev_get (show a.eval (.tmp 34) = Value.string name from hin 6 34 (by decide +kernel) (by decide +kernel))
        exact .inr ⟨43, #[.string name], by simp [execOp, g34, go_sem], (H2.out W).mono (fun e V h => ⟨_, h.1, h.2, rfl⟩)⟩
      · intro a W hf hin hst
        have g32 := ev_get (show a.eval (.tmp 32) = Value.string XA from hin 4 32 (by decide +kernel) (by decide +kernel))
        have g35 := ev_get (show a.eval (.tmp 35) = Value.string B from hin 7 35 (by decide +kernel) (by decide +kernel))
        refine .inl ⟨Value.string XAB, W, ?_, .refl _, rfl⟩
        simp [execOp, g32, g35, go_sem, a2]
      · intro a W hf hin hst
        have g5 := ev_get (show a.eval (.tmp 5) = Value.pointer (some ⟨y, 0, none⟩) from hst 5 (by decide +kernel))
        refine .inl ⟨Value.pointer (some ⟨y, 2, none⟩), W, ?_, .refl _, rfl⟩
        simp [execOp, g5, go_sem]
      · intro a W hf hin hst
        obtain ⟨k0, k1, k2, k3⟩ := HKQ.out W (HK.out.trans hf)
        have g37 := ev_get (show a.eval (.tmp 37) = Value.pointer (some ⟨y, 2, none⟩) from hin 9 37 (by decide +kernel) (by decide +kernel))
        refine .inl ⟨Value.string image, W, ?_, .refl _, rfl⟩
        simp [execOp, g37, go_sem, k0, k1, k2, k3]
      · intro a W hf hin hst
        have g38 := ev_get (show a.eval (.tmp 38) = Value.string image from hin 10 38 (by decide +kernel) (by decide +kernel))
        exact .inr ⟨43, #[.string image], by simp [execOp, g38, go_sem], (H3.out W).mono (fun e V h => ⟨_, h.1, h.2, rfl⟩)⟩
      · intro a W hf hin hst
        have g36 := ev_get (show a.eval (.tmp 36) = Value.string XAB from hin 8 36 (by decide +kernel) (by decide +kernel))
        have g39 := ev_get (show a.eval (.tmp 39) = Value.string C from hin 11 39 (by decide +kernel) (by decide +kernel))
        refine .inl ⟨Value.string XABC, W, ?_, .refl _, rfl⟩
        simp [execOp, g36, g39, go_sem, a3]
      · intro a W hf hin hst
        have g5 := ev_get (show a.eval (.tmp 5) = Value.pointer (some ⟨y, 0, none⟩) from hst 5 (by decide +kernel))
        refine .inl ⟨Value.pointer (some ⟨y, 3, none⟩), W, ?_, .refl _, rfl⟩
        simp [execOp, g5, go_sem]
      · intro a W hf hin hst
        obtain ⟨k0, k1, k2, k3⟩ := HKQ.out W (HK.out.trans hf)
        have g41 := ev_get (show a.eval (.tmp 41) = Value.pointer (some ⟨y, 3, none⟩) from hin 13 41 (by decide +kernel) (by decide +kernel))
        refine .inl ⟨Value.int .u8 r, W, ?_, .refl _, rfl⟩
        simp [execOp, g41, go_sem, k0, k1, k2, k3]
      · intro a W hf hin hst
        have g42 := ev_get (show a.eval (.tmp 42) = Value.int .u8 r from hin 14 42 (by decide +kernel) (by decide +kernel))
        refine .inl ⟨.slice (some ⟨W.heap.size, 0, none⟩) 1 1, W.alloc (.cells #[.int .u8 r] 5), ?_, (Fresh.refl W).alloc _, ⟨W.heap.size, rfl, cell_of_at (at_new _ _) rfl⟩⟩
        simp [execOp, g42, go_sem]
      · intro a W hf hin hst
        obtain ⟨g, e43, hc⟩ : ∃ g, a.eval (.tmp 43) = .slice (some ⟨g, 0, none⟩) 1 1 ∧ W.cell? ⟨g, 0, none⟩ = some (.int .u8 r) := (hin 15 43 (by decide +kernel) (by decide +kernel))
        have g43 := ev_get e43
        refine .inl ⟨Value.string D, W, ?_, .refl _, rfl⟩
        simp [execOp, g43, go_sem, hcv _ _ hc]
      · intro a W hf hin hst
        have g40 := ev_get (show a.eval (.tmp 40) = Value.string XABC from hin 12 40 (by decide +kernel) (by decide +kernel))
        have g44 := ev_get (show a.eval (.tmp 44) = Value.string D from hin 16 44 (by decide +kernel) (by decide +kernel))
        refine .inl ⟨Value.string X', W, ?_, .refl _, rfl⟩
        simp [execOp, g40, g44, go_sem, a4]
      · intro a W hf hin hst
        have g45 := ev_get (show a.eval (.tmp 45) = Value.string X' from hin 17 45 (by decide +kernel) (by decide +kernel))
        refine .inl ⟨Value.string X', W, ?_, .refl _, rfl⟩
        simp [execOp, g45, go_sem]
      intro a W ha hf hr
      refine hKK a W ?_
      generalize hA0 : Act.mk _ _ = A0 at ha
      have ha2 : a = (((((((((((((((((((A0.put (some 28) (a.eval (.tmp 28))).put (some 29) (a.eval (.tmp 29))).put (some 30) (a.eval (.tmp 30))).put (some 31) (a.eval (.tmp 31))).put (some 32) (a.eval (.tmp 32))).put (some 33) (a.eval (.tmp 33))).put (some 34) (a.eval (.tmp 34))).put (some 35) (a.eval (.tmp 35))).put (some 36) (a.eval (.tmp 36))).put (some 37) (a.eval (.tmp 37))).put (some 38) (a.eval (.tmp 38))).put (some 39) (a.eval (.tmp 39))).put (some 40) (a.eval (.tmp 40))).put (some 41) (a.eval (.tmp 41))).put (some 42) (a.eval (.tmp 42))).put (some 43) (a.eval (.tmp 43))).put (some 44) (a.eval (.tmp 44))).put (some 45) (a.eval (.tmp 45))).put (some 3) (a.eval (.tmp 3))) := ha
      have HK := Lib.hid (HK.out.trans hf)
      rw [show a.eval (.tmp 3) = Value.string X' from hr 18 3 (by decide +kernel)] at ha2
      clear ha hr hf hKK
      generalize a.eval (.tmp 28) = v28 at ha2
      generalize a.eval (.tmp 29) = v29 at ha2
      generalize a.eval (.tmp 30) = v30 at ha2
      generalize a.eval (.tmp 31) = v31 at ha2
      generalize a.eval (.tmp 32) = v32 at ha2
      generalize a.eval (.tmp 33) = v33 at ha2
      generalize a.eval (.tmp 34) = v34 at ha2
      generalize a.eval (.tmp 35) = v35 at ha2
      generalize a.eval (.tmp 36) = v36 at ha2
      generalize a.eval (.tmp 37) = v37 at ha2
      generalize a.eval (.tmp 38) = v38 at ha2
      generalize a.eval (.tmp 39) = v39 at ha2
      generalize a.eval (.tmp 40) = v40 at ha2
      generalize a.eval (.tmp 41) = v41 at ha2
      generalize a.eval (.tmp 42) = v42 at ha2
      generalize a.eval (.tmp 43) = v43 at ha2
      generalize a.eval (.tmp 44) = v44 at ha2
      generalize a.eval (.tmp 45) = v45 at ha2
      subst ha2 hA0
      simp only [Act.put, List.setIfInBounds_toArray, List.set_cons_zero, List.set_cons_succ]
      clear k0 k1 k2 k3
      go_wp2
      go_roundw
      · exact ⟨k + 1, by simp, by rw [HX'.out], by omega, (HF.out.trans HF1.out).trans HK.out⟩
      · simp [intOf]; omega
    · obtain rfl : k = l.length := by omega
      have HR : Hid (be 4 seq.toNat ++ (be 2 l.length ++ (l.take l.length).flatMap podL) = enc1L seq l) := by rw [Hid, HENC.out, List.take_length]
      go_wp2
      all_goals try (exfalso; omega)
      go_ret
      exact ⟨by rw [HR.out]; rfl, HF0.out.trans HF.out⟩
end Go.Proofs.Ytphjhlnjfcfdcaa
