/-
  bosunlaw17.CkoneReads, walked.
-/
import Derived.Test.YtphjhlnjfcfdcaaKOf
namespace Go.Proofs.Ytphjhlnjfcfdcaa
open Go.ChangeShapes Go.WideShapes Go.ChangeAt Go.RowKit
set_option maxRecDepth 100000

theorem same1_self (q : Int) (L : List P1) : same1 q q L L = true := by
  unfold same1
  rw [eqL_self, decide_eq_true rfl]; rfl
set_option maxHeartbeats 8000000 in
theorem reads_any (b : ByteArray) (w : World) (hb : b.size ≤ maxLen) : Calls Try.prog 4 #[.string b] w fun e w' => e = .returned (.bool true) ∧ Fresh w w' := by
  have HAW := Lib.hid (fun W => awake17_any W)
  by_cases hbig : 20000 < b.size
  · go_enter Try.func4, Try.ntmps4
    unfold maxLen at hb
    go_wp2_with (fail)
    all_goals try (exfalso; omega)
    refine (HAW.out _).mono ?_
    rintro e w1 ⟨rfl, hf⟩
    go_wp2
    go_ret
    exact ⟨rfl, hf⟩
  have H1 := Lib.hid (fun W => decode_any b W hb)
  have H2 := Lib.hid (fun W => rdecode_any b W hb)
  have HFI := Lib.hid (decT_fit b)
  unfold DecIs at H1 H2
  have hbs : b.size ≤ 20000 := by omega
  clear hb
  obtain ⟨C, q, L, hR⟩ : ∃ C q L, decT b = (C, q, L) := ⟨_, _, _, rfl⟩
  rw [hR] at H1 H2 HFI
  clear hR
  dsimp only at H1 H2 HFI
  have hll : L.length ≤ 1024 := HFI.out.2.1
  go_enter Try.func4, Try.ntmps4
  go_wp2_with (fail)
  all_goals try (exfalso; omega)
  refine (H1.out _).mono ?_
  rintro e w1 ⟨a, c, rfl, hrow, hf⟩
  have HROW := Lib.hid hrow
  have HF1 := Lib.hid (hf.alloc (.cells #[.int .u32 q, .slice a L.length c] 25))
  have HB1 := Lib.hid (at_new w1 (.cells #[.int .u32 q, .slice a L.length c] 25))
  have HR1 := Lib.hid (hrow.move ((Fresh.refl w1).alloc (.cells #[.int .u32 q, .slice a L.length c] 25)))
  clear hrow hf HROW
  dsimp only [st1]
  go_wp2_with (fail)
  generalize w1.alloc (.cells #[.int .u32 q, .slice a L.length c] 25) = V1 at *
  obtain ⟨z1, hz1⟩ : ∃ z1, z1 = w1.heap.size := ⟨_, rfl⟩
  rw [← hz1] at HB1 ⊢
  clear hz1
  refine (H2.out _).mono ?_
  rintro e w2 ⟨a', c', rfl, hrow, hf⟩
  have HF2 := Lib.hid ((HF1.out.trans hf).alloc (.cells #[.int .u32 q, .slice a' L.length c'] 30))
  have HB1 := Lib.hid (at_alloc (p := .cells #[.int .u32 q, .slice a' L.length c'] 30) (hf.at HB1.out))
  have HB2 := Lib.hid (at_new w2 (.cells #[.int .u32 q, .slice a' L.length c'] 30))
  have HR1 := Lib.hid ((HR1.out.move hf).move ((Fresh.refl w2).alloc (.cells #[.int .u32 q, .slice a' L.length c'] 30)))
  have HR2 := Lib.hid (hrow.move ((Fresh.refl w2).alloc (.cells #[.int .u32 q, .slice a' L.length c'] 30)))
  clear hrow hf HF1
  dsimp only [st1]
  go_wp2_with (fail)
  generalize w2.alloc (.cells #[.int .u32 q, .slice a' L.length c'] 30) = V2 at *
  obtain ⟨z2, hz2⟩ : ∃ z2, z2 = w2.heap.size := ⟨_, rfl⟩
  rw [← hz2] at HB2 ⊢
  clear hz2
  have HOF : Hid (∀ W, Fresh V2 W → Calls Try.prog 11 #[.agg #[.int .u32 q, .slice a L.length c]] W (OfIs q L W)) := fun W f => of_any q a L c W (HR1.out.move f) (by omega)
  have HSM : Hid (∀ W a2 c2, Fresh V2 W → RowAt W a2 (p1s L) → Calls Try.prog 17 #[st1 q a2 L.length c2, .agg #[.int .u32 q, .slice a' L.length c']] W fun e w' => e = .returned (.bool true) ∧ Fresh W w') := fun W a2 c2 f h => by
    have := rsame_any q q L L a2 a' c2 c' W h (HR2.out.move f) (by omega)
    rw [same1_self] at this
    exact this
  have HKP : Hid (∀ W, Fresh V2 W → W.cell? ⟨z1, 0, none⟩ = some (.int .u32 q) ∧ W.cell? ⟨z1, 1, none⟩ = some (.slice a L.length c) ∧ W.cell? ⟨z2, 0, none⟩ = some (.int .u32 q) ∧ W.cell? ⟨z2, 1, none⟩ = some (.slice a' L.length c')) := fun W f =>
    ⟨(st1_box (f.at HB1.out)).1, (st1_box (f.at HB1.out)).2.1, (st1_box (f.at HB2.out)).1, (st1_box (f.at HB2.out)).2.1⟩
  obtain ⟨k0, k1, k2, k3⟩ := HKP.out V2 (.refl _)
  have HK : Hid (Fresh V2 V2.drew) := (Fresh.refl V2).drew
  generalize hn : L.length = n at *
  unfold OfIs at HOF
  rw [hn] at HOF
  go_region_held3 (fun w' => (w'.cell? ⟨z1, 0, none⟩ = some (.int .u32 q) ∧ w'.cell? ⟨z1, 1, none⟩ = some (.slice a n c) ∧ w'.cell? ⟨z2, 0, none⟩ = some (.int .u32 q) ∧ w'.cell? ⟨z2, 1, none⟩ = some (.slice a' n c'))) (go_keep)
    (first
      | (go_at_call 10; (with_reducible refine (HAW.out _).mono ?_); rintro e W2 ⟨rfl, hf⟩; have HK := Lib.hid (HK.out.trans hf); obtain ⟨k0, k1, k2, k3⟩ := HKP.out _ HK.out; clear hf)
      | (go_at_call 11; (with_reducible refine (HOF.out _ HK.out).mono ?_); rintro e W2 ⟨a2, c2, rfl, hown, hf⟩; have HRQ := Lib.hid (RowAt.owns hown); have HK := Lib.hid (HK.out.trans hf); obtain ⟨k0, k1, k2, k3⟩ := HKP.out _ HK.out; clear hf hown)
      | (go_at_call 17; (with_reducible refine (HSM.out _ _ _ HK.out HRQ.out).mono ?_); rintro e W2 ⟨rfl, hf⟩; have HK := Lib.hid (HK.out.trans hf); obtain ⟨k0, k1, k2, k3⟩ := HKP.out _ HK.out; clear hf))
  all_goals go_wp2
  all_goals go_ret
  all_goals exact ⟨rfl, HF2.out.trans HK.out⟩
end Go.Proofs.Ytphjhlnjfcfdcaa
