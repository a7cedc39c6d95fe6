/-
  The bytes of a state of version 1, by package ckone.
-/
import Derived.Test.YtphjhlnjfcfdcaaKCheck
import Derived.Test.YtphjhlnjfcfdcaaKBuild
import Derived.Deep.RegionHeld3
namespace Go.Proofs.Ytphjhlnjfcfdcaa
open Go.ChangeShapes Go.WideShapes Go.ChangeAt Go.RowKit
set_option maxRecDepth 100000

theorem text1_any (s : ByteArray) (w : World) (h : s.size ≤ 4096) : Calls Try.prog 73 #[.string s] w fun e w' => e = .returned (.string (tx (txtL s))) ∧ Fresh w w' := by
  have HT := Lib.hid (fun W => text_ok s W h)
  rw [txt_tx] at HT
  go_enter Try.func73, Try.ntmps73
  go_wp2_with (fail)
  refine (HT.out _).mono ?_
  rintro e w' ⟨rfl, hg⟩
  go_wp2
  go_ret
  exact ⟨rfl, hg⟩
theorem add_run (a b c : ByteArray) (h : a.size + b.size ≤ 9223372036854775807) (hc : a ++ b = c) (W : World) : (Op.stringOp .add a b).run Try.prog W = .ok (.string c) W := by
  rw [run_string_add_sum W _ _ h, hc]
theorem wrap_byte {r : Int} (h0 : 0 ≤ r) (h1 : r ≤ 255) : IntKind.u64.wrap r = r := by
  simp [IntKind.wrap, IntKind.signed, IntKind.bits]; omega
theorem pod_parts (p : P1) : tx (txtL p.file) ++ tx (txtL p.name) ++ tx (txtL p.image) ++ beS 1 p.r.toNat = tx (podL p) := by
  rw [beS_tx, tx_app, tx_app, tx_app, podL]; simp only [List.append_assoc]
set_option maxHeartbeats 4000000 in
theorem podB_any (p : P1) (w : World) (hp : p.Fit 4096) : Calls Try.prog 39 #[p.val] w fun e w' => e = .returned (.string (tx (podL p))) ∧ Fresh w w' := by
  have HPP := Lib.hid (pod_parts p)
  obtain ⟨file, name, image, r⟩ := p
  have H1 := Lib.hid (fun W => text1_any file W hp.file)
  have H2 := Lib.hid (fun W => text1_any name W hp.name)
  have H3 := Lib.hid (fun W => text1_any image W hp.image)
  have hr0 : 0 ≤ r := hp.r0
  have hr1 : r ≤ 255 := hp.r1
  have H4 := Lib.hid (fun W => put_yes 1 r W (by decide) hr0 (by omega))
  have z1 : (tx (txtL file)).size ≤ 5000 := by rw [tx_size, txtL_len]; have := hp.file; dsimp only at this; omega
  have z2 : (tx (txtL name)).size ≤ 5000 := by rw [tx_size, txtL_len]; have := hp.name; dsimp only at this; omega
  have z3 : (tx (txtL image)).size ≤ 5000 := by rw [tx_size, txtL_len]; have := hp.image; dsimp only at this; omega
  have z4 : (beS 1 r.toNat).size = 1 := beS_size _ _
  have hw := wrap_byte hr0 hr1
  dsimp only [P1.val] at *
  rw [show (1 : Int).toNat = 1 from rfl] at H4
  clear hp
  generalize tx (txtL file) = A at *
  generalize tx (txtL name) = B at *
  generalize tx (txtL image) = C at *
  generalize beS 1 r.toNat = D at *
  rw [← HPP.out]
  have s1 : (A ++ B).size ≤ 10000 := by rw [ByteArray.size_append]; omega
  have s2 : (A ++ B ++ C).size ≤ 15000 := by rw [ByteArray.size_append]; omega
  have a1 := add_run A B _ (by omega) rfl
  have a2 := add_run (A ++ B) C _ (by omega) rfl
  have a3 := add_run (A ++ B ++ C) D _ (by omega) rfl
  generalize A ++ B ++ C ++ D = ABCD at *
  generalize A ++ B ++ C = ABC at *
  generalize A ++ B = AB at *
  have HA := Lib.hid (at_new w (.cells #[.string file, .string name, .string image, .int .u8 r] 66))
  have HF0 := Lib.hid ((Fresh.refl w).alloc (.cells #[.string file, .string name, .string image, .int .u8 r] 66))
  go_enter Try.func39, Try.ntmps39
  go_wp2_with (fail)
  generalize w.alloc (.cells #[.string file, .string name, .string image, .int .u8 r] 66) = W1 at *
  obtain ⟨z, hz⟩ : ∃ z, z = w.heap.size := ⟨_, rfl⟩
  rw [← hz] at HA ⊢
  clear hz
  have HKP : Hid (∀ W, Fresh W1 W → W.cell? ⟨z, 0, none⟩ = some (.string file) ∧ W.cell? ⟨z, 1, none⟩ = some (.string name) ∧ W.cell? ⟨z, 2, none⟩ = some (.string image) ∧ W.cell? ⟨z, 3, none⟩ = some (.int .u8 r)) := fun W f =>
    (p1_box (p := ⟨file, name, image, r⟩) (f.at HA.out)).1
  obtain ⟨k0, k1, k2, k3⟩ := HKP.out W1 (.refl _)
  have HK : Hid (Fresh W1 W1.drew) := (Fresh.refl W1).drew
  go_region_held3 (fun w' => (w'.cell? ⟨z, 0, none⟩ = some (.string file) ∧ w'.cell? ⟨z, 1, none⟩ = some (.string name) ∧ w'.cell? ⟨z, 2, none⟩ = some (.string image) ∧ w'.cell? ⟨z, 3, none⟩ = some (.int .u8 r))) (go_keep)
    (first
      | (go_at_call 73; (with_reducible refine (H1.out _).mono ?_); rintro e W2 ⟨rfl, hf⟩; have HK := Lib.hid (HK.out.trans hf); obtain ⟨k0, k1, k2, k3⟩ := HKP.out _ HK.out; clear hf)
      | (go_at_call 73; (with_reducible refine (H2.out _).mono ?_); rintro e W2 ⟨rfl, hf⟩; have HK := Lib.hid (HK.out.trans hf); obtain ⟨k0, k1, k2, k3⟩ := HKP.out _ HK.out; clear hf)
      | (go_at_call 73; (with_reducible refine (H3.out _).mono ?_); rintro e W2 ⟨rfl, hf⟩; have HK := Lib.hid (HK.out.trans hf); obtain ⟨k0, k1, k2, k3⟩ := HKP.out _ HK.out; clear hf)
      | (go_at_call 38; (with_reducible refine (H4.out _).mono ?_); rintro e W2 ⟨rfl, hf⟩; have HK := Lib.hid (HK.out.trans hf); obtain ⟨k0, k1, k2, k3⟩ := HKP.out _ HK.out; clear hf))
  all_goals go_wp2
  all_goals go_ret
  all_goals exact ⟨rfl, HF0.out.trans HK.out⟩
end Go.Proofs.Ytphjhlnjfcfdcaa
