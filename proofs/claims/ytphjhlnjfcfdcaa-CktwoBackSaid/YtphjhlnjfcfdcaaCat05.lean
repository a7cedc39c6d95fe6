/-
  A pod that package cktwo takes.
  The pods that package cktwo takes.
  What package cktwo's Decode returns.
  The document's labels, variables' and images' names.
  The document's Label, Variable and Image.
  The document's Variable and Image.
  The document's cut at points, and its Name.
-/
import Derived.Test.YtphjhlnjfcfdcaaCat04
import Derived.Test.YtphjhlnjfcfdcaaCat01
import Derived.Deep.DrawnRows
import Derived.Test.YtphjhlnjfcfdcaaCat02
import Derived.Deep.QuietTactic
import Derived.BigQuiet
import Derived.Maps.AppendAt
import Derived.RangeFuncBox
namespace Go.Proofs.Ytphjhlnjfcfdcaa
open Go.ChangeShapes Go.WideShapes Go.ChangeAt Go.RowKit
set_option maxRecDepth 100000

theorem wrap_u16 {r : Int} (h0 : 0 ≤ r) (h1 : r ≤ 65535) : IntKind.u16.wrap r = r := by
  simp [IntKind.wrap, IntKind.signed, IntKind.bits]; omega
theorem upto_any (b : Nat) (n most : Int) (w : World) :
    Calls Try.prog 59 #[.pointer (some ⟨b, 0, none⟩), .int .i64 n, .int .u64 most] w fun r w' => ∃ b3 b4 b5, r = .returned (.func (.func 80) #[] #[.pointer (some ⟨b3, 0, none⟩), .pointer (some ⟨b4, 0, none⟩), .pointer (some ⟨b5, 0, none⟩)]) ∧
      (w'.cell? ⟨b3, 0, none⟩ = some (.pointer (some ⟨b, 0, none⟩)) ∧ w'.cell? ⟨b4, 0, none⟩ = some (.int .i64 n) ∧ w'.cell? ⟨b5, 0, none⟩ = some (.int .u64 most)) ∧ (w.heap.size ≤ b3 ∧ w.heap.size ≤ b4 ∧ w.heap.size ≤ b5) ∧ Fresh w w' := by
  have h1 := at_new w (.cells #[.pointer (some ⟨b, 0, none⟩)] 83)
  have h2 := at_new (w.alloc (.cells #[.pointer (some ⟨b, 0, none⟩)] 83)) (.cells #[.int .i64 n] 3)
  have h3 := at_new ((w.alloc (.cells #[.pointer (some ⟨b, 0, none⟩)] 83)).alloc (.cells #[.int .i64 n] 3)) (.cells #[.int .u64 most] 46)
  have k1 := Lib.hid (cell_of_at (at_alloc (p := .cells #[.int .u64 most] 46) (at_alloc (p := .cells #[.int .i64 n] 3) h1)) (i := 0) rfl)
  have k2 := Lib.hid (cell_of_at (at_alloc (p := .cells #[.int .u64 most] 46) h2) (i := 0) rfl)
  have k3 := Lib.hid (cell_of_at h3 (i := 0) rfl)
  clear h1 h2 h3
  have HF := Lib.hid ((((Fresh.refl w).alloc (.cells #[.pointer (some ⟨b, 0, none⟩)] 83)).alloc (.cells #[.int .i64 n] 3)).alloc (.cells #[.int .u64 most] 46))
  go_enter Try.func59, Try.ntmps59
  go_wp2
  go_ret
  exact ⟨_, _, _, rfl, ⟨k1.out, by have := k2.out; rw [World.size_alloc] at this; exact this, by have := k3.out; rw [World.size_alloc, World.size_alloc] at this; exact this⟩, ⟨by omega, by omega, by omega⟩, HF.out⟩
theorem container_any (b : Nat) (w : World) :
    Calls Try.prog 83 #[.pointer (some ⟨b, 0, none⟩)] w fun r w' => ∃ b1, r = .returned (.func (.func 96) #[] #[.pointer (some ⟨b1, 0, none⟩)]) ∧ w'.cell? ⟨b1, 0, none⟩ = some (.pointer (some ⟨b, 0, none⟩)) ∧ w.heap.size ≤ b1 ∧ Fresh w w' := by
  have k1 := Lib.hid (cell_of_at (at_new w (.cells #[.pointer (some ⟨b, 0, none⟩)] 83)) (i := 0) rfl)
  have HF := Lib.hid ((Fresh.refl w).alloc (.cells #[.pointer (some ⟨b, 0, none⟩)] 83))
  go_enter Try.func83, Try.ntmps83
  go_wp2
  go_ret
  exact ⟨_, rfl, k1.out, Nat.le_refl _, HF.out⟩
theorem podf_any (b : Nat) (w : World) :
    Calls Try.prog 60 #[.pointer (some ⟨b, 0, none⟩)] w fun r w' => ∃ b1, r = .returned (.func (.func 81) #[] #[.pointer (some ⟨b1, 0, none⟩)]) ∧ w'.cell? ⟨b1, 0, none⟩ = some (.pointer (some ⟨b, 0, none⟩)) ∧ w.heap.size ≤ b1 ∧ Fresh w w' := by
  have k1 := Lib.hid (cell_of_at (at_new w (.cells #[.pointer (some ⟨b, 0, none⟩)] 83)) (i := 0) rfl)
  have HF := Lib.hid ((Fresh.refl w).alloc (.cells #[.pointer (some ⟨b, 0, none⟩)] 83))
  go_enter Try.func60, Try.ntmps60
  go_wp2
  go_ret
  exact ⟨_, rfl, k1.out, Nat.le_refl _, HF.out⟩
/-- A pod's containers lie in a block of their own, above. -/
def M2.Above (N : Nat) (w : World) (m : M2) : Prop := ∀ ad : Addr, m.a = some ad → N ≤ ad.block ∧ ad.block < w.heap.size
set_option maxHeartbeats 8000000 in
theorem pod1_any (b b1 : Nat) (s s7 : ByteArray) (e e7 : Int) (p : P2) (w : World) (hs : s.size ≤ maxLen) (ht : atT w b s e) (h : pod2T s e = (s7, e7, p))
    (c1 : w.cell? ⟨b1, 0, none⟩ = some (.pointer (some ⟨b, 0, none⟩))) (n1 : b1 ≠ b) :
    Calls Try.prog 81 #[.pointer (some ⟨b1, 0, none⟩)] w fun r w' => ∃ m : M2, r = .returned m.val ∧ (e7 = 0 → m.p = p) ∧ m.In w' ∧ m.Above w.heap.size w' ∧ Moved b w w' s7 e7 := by
  obtain ⟨s1, s2, s3, s4, s5, s6, t7, x1, x2, x3, e1, e2, e3, e4, e5, e6, f7, v, g, n, L, hP⟩ := pod2T_ex s e
  obtain ⟨r1, r2, r3⟩ : t7 = s7 ∧ f7 = e7 ∧ (⟨x1, x2, x3, v, g, L⟩ : P2) = p := by
    have := (pod2T_eq hP).symm.trans h
    simpa using this
  subst r1 r2 r3
  clear h
  have hbl := atT_lt ht
  have hb1l := World.block_lt_of_cell? w _ c1
  dsimp only at hb1l
  obtain ⟨⟨hv0, hv1⟩, ⟨hg0, hg1⟩, hn0, hn1⟩ := hP.vals
  have HP := Lib.hid hP
  have HL : Hid (s1.size ≤ maxLen ∧ s2.size ≤ maxLen ∧ s3.size ≤ maxLen ∧ s4.size ≤ maxLen ∧ s5.size ≤ maxLen) := by have := hP.le; rw [Hid]; omega
  have hw8 := wrap_u8 hv0 (by omega)
  have hw16 := wrap_u16 hg0 hg1
  have ht0 : atT (w.alloc (.cells #[.string ⟨#[]⟩, .string ⟨#[]⟩, .string ⟨#[]⟩, .int .u8 0, .int .u16 0, .slice none 0 0] 98)) b s e := at_alloc ht
  have HM0 : Hid (Moved b w (w.alloc (.cells #[.string ⟨#[]⟩, .string ⟨#[]⟩, .string ⟨#[]⟩, .int .u8 0, .int .u16 0, .slice none 0 0] 98)).drew s e) := ((Moved.refl ht).fresh hbl ((Fresh.refl w).alloc _)).fresh (atT_lt ht0) ((Fresh.refl _).drew)
  have HA := Lib.hid (at_new w (.cells #[.string ⟨#[]⟩, .string ⟨#[]⟩, .string ⟨#[]⟩, .int .u8 0, .int .u16 0, .slice none 0 0] 98))
  have HC1 := Lib.hid (((Fresh.refl w).alloc (.cells #[.string ⟨#[]⟩, .string ⟨#[]⟩, .string ⟨#[]⟩, .int .u8 0, .int .u16 0, .slice none 0 0] 98)).cell c1)
  clear hP ht ht0 c1
  go_enter Try.func81, Try.ntmps81
  go_wp2_with (fail)
  generalize w.alloc (.cells #[.string ⟨#[]⟩, .string ⟨#[]⟩, .string ⟨#[]⟩, .int .u8 0, .int .u16 0, .slice none 0 0] 98) = W0 at *
  obtain ⟨z, hz⟩ : ∃ z, z = w.heap.size := ⟨_, rfl⟩
  rw [← hz] at HA ⊢
  have hzb : z ≠ b := by omega
  have hb1z : b1 ≠ z := by omega
  have hbz : b < z := by omega
  have HZW := Lib.hid hz
  clear hz
  have k1 := HC1.out
  have HA : Hid (W0.drew.heap[z]? = some (.cells #[.string ⟨#[]⟩, .string ⟨#[]⟩, .string ⟨#[]⟩, .int .u8 0, .int .u16 0, .slice none 0 0] 98)) := HA.out
  have HM := Lib.hid HM0.out
  clear HC1 HM0
  go_region_held3 (fun w' => (w'.cell? ⟨b1, 0, none⟩ = some (.pointer (some ⟨b, 0, none⟩)))) (first | go_keep | exact cell_set_ne (cell_set_ne (cell_set_ne (cell_set_ne (cell_set_ne (cell_set_ne k1 hb1z) hb1z) hb1z) hb1z) hb1z) hb1z)
    (first
      | (go_at_call 75; (with_reducible refine (ttext_at _ hs HM.out.isT HP.out.h1).mono ?_); rintro r W2 ⟨rfl, hm⟩; have k1 := hm.cell k1 n1; have HA := Lib.hid ((hm.block z (lt_of_at HA.out) hzb).trans HA.out); have HM := Lib.hid (HM.out.trans hm); clear hm)
      | (go_at_call 75; (with_reducible refine (ttext_at _ HL.out.1 HM.out.isT HP.out.h2).mono ?_); rintro r W2 ⟨rfl, hm⟩; have k1 := hm.cell k1 n1; have HA := Lib.hid ((hm.block z (lt_of_at HA.out) hzb).trans HA.out); have HM := Lib.hid (HM.out.trans hm); clear hm)
      | (go_at_call 75; (with_reducible refine (ttext_at _ HL.out.2.1 HM.out.isT HP.out.h3).mono ?_); rintro r W2 ⟨rfl, hm⟩; have k1 := hm.cell k1 n1; have HA := Lib.hid ((hm.block z (lt_of_at HA.out) hzb).trans HA.out); have HM := Lib.hid (HM.out.trans hm); clear hm)
      | (go_at_call 47; (with_reducible refine (take_at _ HL.out.2.2.1 HM.out.isT HP.out.h4).mono ?_); rintro r W2 ⟨rfl, hm⟩; have k1 := hm.cell k1 n1; have HA := Lib.hid ((hm.block z (lt_of_at HA.out) hzb).trans HA.out); have HM := Lib.hid (HM.out.trans hm); clear hm)
      | (go_at_call 47; (with_reducible refine (take_at _ HL.out.2.2.2.1 HM.out.isT HP.out.h5).mono ?_); rintro r W2 ⟨rfl, hm⟩; have k1 := hm.cell k1 n1; have HA := Lib.hid ((hm.block z (lt_of_at HA.out) hzb).trans HA.out); have HM := Lib.hid (HM.out.trans hm); clear hm)
      | (go_at_call 59; (with_reducible refine (upto_any _ _ _ _).mono ?_); rintro r W2 ⟨b3, b4, b5, rfl, hcs, hbs, hf⟩; have k1 := hf.cell k1; have HCS := Lib.hid hcs; have HBS := Lib.hid (show b3 ≠ b ∧ b5 ≠ b from by have := atT_lt HM.out.isT; omega); have HA := Lib.hid (hf.at HA.out); have HM := Lib.hid (HM.out.fresh (atT_lt HM.out.isT) hf); clear hf hcs hbs)
      | (go_at_call 83; (with_reducible refine (container_any _ _).mono ?_); rintro r W2 ⟨b6, rfl, hc6, hb6, hf⟩; have k1 := hf.cell k1; have HC6 := Lib.hid hc6; have HCS := Lib.hid (⟨hf.cell HCS.out.1, hf.cell HCS.out.2.1, hf.cell HCS.out.2.2⟩ : _ ∧ _ ∧ _); have HB6 := Lib.hid (show b6 ≠ b from by have := atT_lt HM.out.isT; omega); have HA := Lib.hid (hf.at HA.out); have HM := Lib.hid (HM.out.fresh (atT_lt HM.out.isT) hf); clear hf hc6 hb6)
      | (go_at_call 82; (with_reducible refine (listC_any b b6 b3 b4 b5 s5 s6 t7 e5 e6 f7 1 16 n L _ HL.out.2.2.2.2 HM.out.isT HP.out.h6 HP.out.h7 hn0 (by omega) HC6.out HCS.out.1 HCS.out.2.1 HCS.out.2.2 HB6.out HBS.out.1 HBS.out.2).mono ?_); rintro r W2 ⟨la, lc, rfl, hrow, hcap, hab, hm⟩; have k1 := hm.cell k1 n1; have HROW := Lib.hid hrow; have HCAP := Lib.hid hcap; have HAB := Lib.hid (show ∀ ad : Addr, la = some ad → z < ad.block ∧ ad.block < W2.heap.size from fun ad h => ⟨Nat.lt_of_lt_of_le (lt_of_at HA.out) (hab ad h).1, (hab ad h).2⟩); have HA := Lib.hid ((hm.block z (lt_of_at HA.out) hzb).trans HA.out); have HM := Lib.hid (HM.out.trans hm); clear hm hrow hcap hab; have q0 := cell_of_at HA.out (i := 0) rfl; have q1 := cell_of_at HA.out (i := 1) rfl; have q2 := cell_of_at HA.out (i := 2) rfl; have q3 := cell_of_at HA.out (i := 3) rfl; have q4 := cell_of_at HA.out (i := 4) rfl; have q5 := cell_of_at HA.out (i := 5) rfl; have g0 := frozen_of_at HA.out 0; have g1 := frozen_of_at HA.out 1; have g2 := frozen_of_at HA.out 2; have g3 := frozen_of_at HA.out 3; have g4 := frozen_of_at HA.out 4; have g5 := frozen_of_at HA.out 5))
  all_goals go_wp2
  refine bodyPost_ret (v := .agg #[.string x1, .string x2, .string x3, .int .u8 v, .int .u16 g, .slice la (gotM f7 L).length lc]) (by simp [results, Try.results81, go_sem, *]) rfl ⟨⟨⟨x1, x2, x3, v, g, gotM f7 L⟩, la, lc⟩, rfl, fun h => by rw [gotM, if_pos h], ⟨?_, HCAP.out⟩, fun ad h => ?_, ?_⟩
  · have hne : ∀ ad : Addr, la = some ad → ad.block ≠ z := fun ad h => by have := HAB.out ad h; omega
    exact (((((HROW.out.set (p := ⟨z, 0, none⟩) hne _).set (p := ⟨z, 1, none⟩) hne _).set (p := ⟨z, 2, none⟩) hne _).set (p := ⟨z, 3, none⟩) hne _).set (p := ⟨z, 4, none⟩) hne _).set (p := ⟨z, 5, none⟩) hne _
  · have := HAB.out ad h
    have := HZW.out
    refine ⟨by omega, ?_⟩
    simp only [World.size_setCell]
    omega
  · have hzw : w.heap.size ≤ z := by have := HZW.out; omega
    exact (((((HM.out.off hzw hbl _ _).off hzw hbl _ _).off hzw hbl _ _).off hzw hbl _ _).off hzw hbl _ _).off hzw hbl _ _
end Go.Proofs.Ytphjhlnjfcfdcaa
namespace Go.Proofs.Ytphjhlnjfcfdcaa
open Go.ChangeShapes Go.WideShapes Go.ChangeAt Go.RowKit
set_option maxRecDepth 100000

theorem infoP2 : (Try.prog.info? 98).map (fun i => (i.zero, i.size, i.bytes)) = some (some (.agg #[.string ⟨#[]⟩, .string ⟨#[]⟩, .string ⟨#[]⟩, .int .u8 0, .int .u16 0, .slice none 0 0]), 6, 80) := by kernel_rfl
/-- A pod's containers lie above, and in another block than the pods. -/
def M2.Far (N : Nat) (g : Option Nat) (w : World) (m : M2) : Prop := m.In w ∧ ∀ ad : Addr, m.a = some ad → N ≤ ad.block ∧ ad.block < w.heap.size ∧ some ad.block ≠ g
theorem M2.Far.fresh {N : Nat} {g : Option Nat} {w w' : World} {m : M2} (h : m.Far N g w) (f : Fresh w w') : m.Far N g w' :=
  ⟨h.1.move f, fun ad e => ⟨(h.2 ad e).1, Nat.lt_of_lt_of_le (h.2 ad e).2.1 f.size, (h.2 ad e).2.2⟩⟩
theorem M2.Far.moved {N b : Nat} {g : Option Nat} {w w' : World} {s : ByteArray} {x : Int} {m : M2} (h : m.Far N g w) (f : Moved b w w' s x) (hb : b < N) : m.Far N g w' :=
  ⟨⟨h.1.1.keep (fun ad e => f.block ad.block (h.2 ad e).2.1 (by have := (h.2 ad e).1; omega)), h.1.2⟩, fun ad e => ⟨(h.2 ad e).1, Nat.lt_of_lt_of_le (h.2 ad e).2.1 f.size, (h.2 ad e).2.2⟩⟩
theorem M2.Far.grown {N g' : Nat} {g : Option Nat} {w w' : World} {m : M2} (h : m.Far N g w) (f : w.grownBy w' g) (hat : g = some g' ∨ g' = w.heap.size) : m.Far N (some g') w' :=
  ⟨⟨h.1.1.keep (fun ad e => f.block ad.block (h.2 ad e).2.1 (h.2 ad e).2.2), h.1.2⟩, fun ad e => ⟨(h.2 ad e).1, Nat.lt_of_lt_of_le (h.2 ad e).2.1 f.size, fun e2 => by
    have h1 := (h.2 ad e).2.1
    rcases hat with e3 | e3
    · exact (h.2 ad e).2.2 (by rw [e3]; exact e2)
    · have : ad.block = g' := by simpa using e2
      omega⟩⟩
theorem M2.Far.set {N z i : Nat} {g : Option Nat} {w : World} {m : M2} {u : Value} (h : m.Far N g w) (hz : z < N) : m.Far N g (w.setCell ⟨z, i, none⟩ u) :=
  ⟨⟨h.1.1.set (p := ⟨z, i, none⟩) (fun ad e => by have := (h.2 ad e).1; show ad.block ≠ z; omega) u, h.1.2⟩, fun ad e => ⟨(h.2 ad e).1, by rw [World.size_setCell]; exact (h.2 ad e).2.1, (h.2 ad e).2.2⟩⟩
theorem M2.far {N B : Nat} {g : Option Nat} {w : World} {m : M2} (hi : m.In w) (h : m.Above B w) (hN : N ≤ B) (hg : ∀ k, g = some k → k < B) : m.Far N g w :=
  ⟨hi, fun ad e => ⟨Nat.le_trans hN (h ad e).1, (h ad e).2, fun e2 => by have := hg _ e2.symm; have := (h ad e).1; omega⟩⟩
theorem pods2_snoc (D : List M2) (m : M2) : pods2 (D ++ [m]) = pods2 D ++ [m.p] := by simp [pods2]
set_option maxHeartbeats 4000000 in
theorem listP_any (b b1 b3 b4 b5 : Nat) (s s2 s3 : ByteArray) (e e2 e3 m most n : Int) (L : List P2) (w : World) (hs : s.size ≤ maxLen) (ht : atT w b s e) (h2 : upT s e m most = (s2, e2, n)) (h3 : manyT pod2T n.toNat s2 e2 = (s3, e3, L)) (hn0 : 0 ≤ n) (hn1 : n ≤ 1024)
    (c1 : w.cell? ⟨b1, 0, none⟩ = some (.pointer (some ⟨b, 0, none⟩))) (c3 : w.cell? ⟨b3, 0, none⟩ = some (.pointer (some ⟨b, 0, none⟩))) (c4 : w.cell? ⟨b4, 0, none⟩ = some (.int .i64 m)) (c5 : w.cell? ⟨b5, 0, none⟩ = some (.int .u64 most)) (n1 : b1 ≠ b) (n3 : b3 ≠ b) (n5 : b5 ≠ b) :
    Calls Try.prog 58 #[.pointer (some ⟨b, 0, none⟩), .func (.func 80) #[] #[.pointer (some ⟨b3, 0, none⟩), .pointer (some ⟨b4, 0, none⟩), .pointer (some ⟨b5, 0, none⟩)], .func (.func 81) #[] #[.pointer (some ⟨b1, 0, none⟩)]] w
      fun r w' => ∃ a c, ∃ D : List M2, r = .returned (.slice a D.length c) ∧ pods2 D = gotM e3 L ∧ RowAt w' a (m2s D) ∧ (∀ m ∈ D, m.Far w.heap.size none w') ∧ (∀ ad : Addr, a = some ad → w.heap.size ≤ ad.block ∧ ad.block < w'.heap.size) ∧ Moved b w w' s3 e3 := by
  have hb := atT_lt ht
  have HT := Lib.hid (upto1_any b b3 b4 b5 s s2 e e2 m most n w hs ht h2 c3 c4 c5 n3 n5)
  have hs2 : s2.size ≤ maxLen := by have := upT_less s e m most; rw [h2] at this; exact Nat.le_trans this hs
  have HZ0 := Lib.hid (fun h => upT_zero h2 h)
  have HC1 := Lib.hid c1
  clear ht h2 hs c3 c4 c5
  obtain ⟨N, rfl⟩ := Int.eq_ofNat_of_zero_le hn0
  rw [Int.toNat_natCast] at h3
  have H3 : Hid (manyT pod2T N s2 e2 = (s3, e3, L)) := h3
  have HZ : Hid (e2 ≠ 0 → N = 0) := fun h => by have := HZ0.out h; omega
  have hN : N ≤ 1024 := by omega
  clear h3 HZ0 hn0 hn1 c1
  obtain ⟨i0, hi, hz0, hz1, hz2⟩ := info_parts infoP2
  go_enter Try.func58, Try.ntmps58
  go_wp2_with (fail)
  refine HT.out.mono ?_
  rintro r w1 ⟨rfl, hm1⟩
  have HM := Lib.hid hm1
  have hbw : w.heap.size ≤ w1.heap.size := hm1.size
  have HS2 : Hid (s2.size ≤ maxLen) := hs2
  clear hm1 hs2
  go_wp2
  all_goals try (exfalso; omega)
  go_loopw [7, 10] (fun a7 a10 wr => ∃ (k : Nat) (s : ByteArray) (e : Int) (o : Option Addr) (c : Nat) (D : List M2), a10 = .int .u64 (k : Int) ∧ a7 = .slice o k c ∧ k ≤ N ∧ Hid (e ≠ 0 → N = 0) ∧ Hid (s.size ≤ maxLen) ∧ Hid (D.length = k) ∧ Hid (manyT pod2T N s2 e2 = aheadM (pods2 D) (manyT pod2T (N - k) s e)) ∧ Hid (wr.ownsRow w.heap.size 98 6 (.slice o k c) k (m2s D)) ∧ Hid (∀ m ∈ D, m.Far w.heap.size (Value.slice o k c).ownBlock wr) ∧ Hid (Moved b w wr s e)) (fun _ a10 _ => N - (intOf a10).toNat)
  case atStart => exact ⟨0, s2, e2, none, 0, [], rfl, rfl, Nat.zero_le _, HZ.out, HS2.out, rfl, rfl, World.ownsRow_nil _ _ _ _, by rw [Hid]; simp, HM.out⟩
  case round =>
    clear HM HZ HS2
    obtain ⟨k, s, e, o, c, D, rfl, rfl, hk, HZ, HS, HD, HE, HOW, HFA, HM⟩ := hrel
    by_cases hlt : k < N
    · obtain rfl : e = 0 := Classical.byContradiction fun h => by have := HZ.out h; omega
      obtain ⟨s4, e4, x, hx⟩ : ∃ s4 e4 x, pod2T s 0 = (s4, e4, x) := ⟨_, _, _, rfl⟩
      have HST := Lib.hid (HE.out.trans (manyT_step hlt hx (pods2 D)))
      have HL4 : Hid (s4.size ≤ maxLen) := by have := pod2T_less s 0; rw [hx] at this; exact Nat.le_trans this HS.out
      have HCT := Lib.hid (pod1_any b b1 s s4 0 e4 x wr HS.out HM.out.isT hx (HM.out.cell HC1.out n1) n1)
      clear hx HE
      go_wp2_with (fail)
      all_goals try (exfalso; omega)
      refine HCT.out.mono ?_
      rintro r w5 ⟨m, rfl, hmp, hin, hab, hm2⟩
      have HO := Lib.hid (own_moved HOW.out hm2 hb)
      have HFB := Lib.hid (fun m hm => (HFA.out m hm).moved hm2 hb)
      have HFM := Lib.hid (M2.far (N := w.heap.size) (g := (Value.slice o k c).ownBlock) hin hab HM.out.size (fun g e => (World.ownsRow.lt HOW.out g e).2))
      have HM := Lib.hid (HM.out.trans hm2)
      have HMP := Lib.hid hmp
      clear hm2 HCT hmp hin hab
      obtain ⟨⟨y1, y2, y3, yv, yg, ycs⟩, ya, yc⟩ := m
      dsimp only [M2.val] at *
      have HN := Lib.hid (news7 w5 98 [.string y1, .string y2, .string y3, .int .u8 yv, .int .u16 yg, .slice ya ycs.length yc])
      have HW5 : Hid (w.heap.size ≤ w5.heap.size) := HM.out.size
      go_wp2_with (at_builtin; refine Hid.out ?_)
      refine Lib.hid ?_
      refine wpList_append_lies _ rfl _ _ 47 rfl w.heap.size 98 i0 (.agg #[.string ⟨#[]⟩, .string ⟨#[]⟩, .string ⟨#[]⟩, .int .u8 0, .int .u16 0, .slice none 0 0]) 6 80 Try.underlying47 hi hz0 hz1 hz2 rfl (by decide) _ k _ rfl (World.ownsRow.alloc HO.out _) ⟨w5.heap.size, 0, none⟩ 1 1 [.string y1, .string y2, .string y3, .int .u8 yv, .int .u16 yg, .slice ya ycs.length yc] rfl rfl HN.out (by simp [Value.oneCell']) (by decide) (by unfold maxLen; omega) (by omega) (by rw [World.size_alloc]; have := HW5.out; omega) _ rfl ?_
      intro g' cap' w6 hown' hgrow hat _
      have hm6 := (HM.out.fresh (atT_lt HM.out.isT) ((Fresh.refl w5).alloc (.cells #[.string y1, .string y2, .string y3, .int .u8 yv, .int .u16 yg, .slice ya ycs.length yc] 98))).grown hgrow (fun g e => (World.ownsRow.lt HO.out g e).1) hb
      have HFC : Hid (∀ m ∈ D ++ [(⟨⟨y1, y2, y3, yv, yg, ycs⟩, ya, yc⟩ : M2)], m.Far w.heap.size (some g') w6) := fun m hm => by
        have hf : m.Far w.heap.size (Value.slice o k c).ownBlock w5 := by
          rcases List.mem_append.1 hm with h | h
          · exact HFB.out m h
          · rw [List.mem_singleton.1 h]; exact HFM.out
        exact (hf.fresh ((Fresh.refl w5).alloc _)).grown hgrow hat
      obtain ⟨k0, k1, f0, f1⟩ := atT_facts hm6.isT
      have HM6 := Lib.hid hm6
      have HOWN := Lib.hid hown'
      clear hown' hgrow hm6 hat
      by_cases he : e4 = 0
      · subst he
        go_wp2
        go_roundw
        case rel =>
          refine ⟨k + 1, s4, 0, some ⟨g', 0, none⟩, cap', D ++ ([⟨⟨y1, y2, y3, yv, yg, ycs⟩, ya, yc⟩] : List M2), by simp, by simp, by omega, fun h => absurd rfl h, HL4.out, ?_, ?_, ?_, HFC.out, HM6.out⟩
          · rw [Hid, List.length_append, HD.out]; rfl
          · rw [Hid, HST.out, pods2_snoc, ← HMP.out rfl]
          · rw [m2s_snoc]; exact HOWN.out
        case measure => simp [intOf]; omega
      · have e0 : (e4 != 0) = true := by simpa using he
        have HR : Hid (s3 = s4 ∧ e3 = e4) := by
          have h1 := H3.out.symm.trans HST.out
          have h2 := manyT_err pod2T_keeps (N - (k + 1)) (s := s4) he
          simp only [aheadM, Prod.mk.injEq] at h1
          exact ⟨h1.1.trans h2.1, h1.2.1.trans h2.2⟩
        have HG : Hid (gotM e3 L = []) := by rw [Hid, gotM, HR.out.2, if_neg he]
        go_wp2
        go_ret
        refine ⟨none, 0, [], rfl, by rw [HG.out]; rfl, .nil _ _, by simp, (fun _ h => nomatch h), ?_⟩
        rw [HR.out.1, HR.out.2]; exact HM6.out
    · obtain rfl : k = N := by omega
      have HR : Hid (s3 = s ∧ e3 = e ∧ L = pods2 D) := by
        have h1 := H3.out.symm.trans HE.out
        rw [Nat.sub_self] at h1
        simp only [aheadM, manyT, Prod.mk.injEq, List.append_nil] at h1
        exact h1
      have HG : Hid (pods2 D = gotM e3 L) := by
        rw [Hid, gotM, HR.out.2.1, HR.out.2.2]
        by_cases he : e = 0
        · rw [if_pos he]
        · rw [if_neg he]
          have h0 := HZ.out he
          have := HD.out
          rw [h0] at this
          rw [List.eq_nil_of_length_eq_zero this]; rfl
      go_wp2
      all_goals try (exfalso; omega)
      go_ret
      refine ⟨o, c, D, ?_, HG.out, RowAt.owns HOW.out, fun m hm => ⟨(HFA.out m hm).1, fun ad e => ⟨((HFA.out m hm).2 ad e).1, ((HFA.out m hm).2 ad e).2.1, by simp⟩⟩, (fun ad h => World.ownsRow.lt HOW.out ad.block (by rw [h]; rfl)), ?_⟩
      · rw [HD.out]; rfl
      · rw [HR.out.1, HR.out.2.1]; exact HM.out
end Go.Proofs.Ytphjhlnjfcfdcaa
namespace Go.Proofs.Ytphjhlnjfcfdcaa
open Go.ChangeShapes Go.WideShapes Go.ChangeAt Go.RowKit
set_option maxRecDepth 100000

/-- What Decode answers. -/
def DecIs2 (b : ByteArray) (w : World) (r : Ending) (w' : World) : Prop :=
  ∃ a c, ∃ D : List M2, r = .returned (.tuple #[st2 (dec2 b).2.1 a D.length c, .int .i64 (dec2 b).1]) ∧ pods2 D = (dec2 b).2.2 ∧ Row2 w' a D ∧ Fresh w w'
theorem Row2.set {w : World} {a : Option Addr} {l : List M2} {z i : Nat} {u : Value} (h : Row2 w a l) (h1 : ∀ ad : Addr, a = some ad → ad.block ≠ z) (h2 : ∀ m ∈ l, ∀ ad : Addr, m.a = some ad → ad.block ≠ z) : Row2 (w.setCell ⟨z, i, none⟩ u) a l :=
  ⟨h.row.set (p := ⟨z, i, none⟩) h1 u, fun m hm => ⟨(h.ins m hm).1.set (p := ⟨z, i, none⟩) (h2 m hm) u, (h.ins m hm).2⟩⟩
set_option maxHeartbeats 4000000 in
theorem decode2_any (b : ByteArray) (w : World) (hb : b.size ≤ maxLen) : Calls Try.prog 31 #[.string b] w (DecIs2 b w) := by
  obtain ⟨s1, s2, s3, e1, e2, e3, q, n, L, hD⟩ := dec2T_ex b
  obtain ⟨⟨hq0, hq1⟩, hn0, hn1⟩ := hD.vals
  have HEQ : Hid (dec2 b = if endT s3 e3 ≠ 0 then (endT s3 e3, 0, []) else if chk2 L ≠ 0 then (chk2 L, 0, []) else (0, q, L)) := dec2_eq hD
  have HTH := Lib.hid hD
  have HLE := Lib.hid hD.le
  have HFT : Hid (∀ p ∈ L, p.Fit maxLen) := fun p hp => (hD.fit.1 p hp).1.mono (by unfold maxLen; omega)
  clear hD
  unfold DecIs2
  generalize dec2 b = R at *
  have ht0 : atT ((w.alloc (.cells #[.int .u64 0, .slice none 0 0] 49)).alloc (.cells #[.string b, .int .i64 0] 85)) (w.heap.size + 1) b 0 := by
    have := at_new (w.alloc (.cells #[.int .u64 0, .slice none 0 0] 49)) (.cells #[.string b, .int .i64 0] 85)
    rw [World.size_alloc] at this
    exact this
  have hA := at_alloc (p := .cells #[.string b, .int .i64 0] 85) (at_new w (.cells #[.int .u64 0, .slice none 0 0] 49))
  have HF0 := Lib.hid (((Fresh.refl w).alloc (.cells #[.int .u64 0, .slice none 0 0] 49)).alloc (.cells #[.string b, .int .i64 0] 85))
  have HA := Lib.hid hA
  have HT0 := Lib.hid ht0
  clear ht0 hA
  go_enter Try.func31, Try.ntmps31
  go_wp2_with (fail)
  generalize (w.alloc (.cells #[.int .u64 0, .slice none 0 0] 49)).alloc (.cells #[.string b, .int .i64 0] 85) = W0 at *
  obtain ⟨z, hz⟩ : ∃ z, z = w.heap.size := ⟨_, rfl⟩
  have HZW := Lib.hid hz
  rw [← hz] at HA HT0 ⊢
  clear hz
  refine (take_at _ hb HT0.out HTH.out.h1).mono ?_
  rintro r w1 ⟨rfl, hm1⟩
  have HM := Lib.hid hm1
  clear hm1
  go_wp2_with (fail)
  refine (upto_any _ _ _ _).mono ?_
  rintro r v1 ⟨b3, b4, b5, rfl, hcs, hbs, hf⟩
  have HCS := Lib.hid hcs
  have HBS := Lib.hid (show b3 ≠ z + 1 ∧ b5 ≠ z + 1 from by have := atT_lt HM.out.isT; omega)
  have HM := Lib.hid (HM.out.fresh (atT_lt HM.out.isT) hf)
  clear hf hcs hbs
  go_wp2_with (fail)
  refine (podf_any _ _).mono ?_
  rintro r v2 ⟨b6, rfl, hc6, hb6, hf⟩
  have HC6 := Lib.hid hc6
  have HCS := Lib.hid (⟨hf.cell HCS.out.1, hf.cell HCS.out.2.1, hf.cell HCS.out.2.2⟩ : _ ∧ _ ∧ _)
  have HB6 := Lib.hid (show b6 ≠ z + 1 from by have := atT_lt HM.out.isT; omega)
  have HM := Lib.hid (HM.out.fresh (atT_lt HM.out.isT) hf)
  clear hf hc6 hb6
  go_wp2_with (fail)
  refine (listP_any (z + 1) b6 b3 b4 b5 s1 s2 s3 e1 e2 e3 2 1024 n L _ (Nat.le_trans HLE.out.1 hb) HM.out.isT HTH.out.h2 HTH.out.h3 hn0 hn1 HC6.out HCS.out.1 HCS.out.2.1 HCS.out.2.2 HB6.out HBS.out.1 HBS.out.2).mono ?_
  rintro r w2 ⟨a, c, D, rfl, hpd, hrow, hfar, hab, hm2⟩
  have hzl : z + 1 < v2.heap.size := atT_lt HM.out.isT
  have HAB : Hid (∀ ad : Addr, a = some ad → ad.block ≠ z) := fun ad h => by
    have h1 := (hab ad h).1
    omega
  have HAB2 : Hid (∀ m ∈ D, ∀ ad : Addr, m.a = some ad → ad.block ≠ z) := fun m hm ad h => by
    have h1 := ((hfar m hm).2 ad h).1
    omega
  have HROW : Hid (Row2 w2 a D) := ⟨hrow, fun m hm => (hfar m hm).1⟩
  have HPD := Lib.hid hpd
  have HDF : Hid (∀ m ∈ D, m.p.Fit maxLen) := fun m hm => by
    have h1 : m.p ∈ gotM e3 L := by rw [← hpd]; exact List.mem_map_of_mem hm
    unfold gotM at h1
    split at h1
    · exact HFT.out _ h1
    · simp at h1
  have hbx : w2.heap[z]? = some (.cells #[.int .u64 0, .slice none 0 0] 49) :=
    (hm2.block z (by omega) (by omega)).trans ((HM.out.block z (lt_of_at HA.out) (by omega)).trans HA.out)
  have hfr : Fresh w w2 := Moved.below (Moved.below HF0.out HM.out (by have := HZW.out; omega)) hm2 (by have := HZW.out; omega)
  clear hrow hfar hab hpd HFT
  have HM3 := Lib.hid (hm2.fresh (atT_lt hm2.isT) ((Fresh.refl w2).alloc (.cells #[.int .u64 q, .slice a D.length c] 49)))
  have HEN := Lib.hid (tend_any (z + 1) s3 e3 _ HM3.out.isT)
  have HBX := Lib.hid (at_alloc (p := .cells #[.int .u64 q, .slice a D.length c] 49) hbx)
  have HBS := Lib.hid (at_new w2 (.cells #[.int .u64 q, .slice a D.length c] 49))
  have HFR := Lib.hid (hfr.alloc (.cells #[.int .u64 q, .slice a D.length c] 49))
  have HROW := Lib.hid (HROW.out.move ((Fresh.refl w2).alloc (.cells #[.int .u64 q, .slice a D.length c] 49)))
  clear hm2 hbx hfr HC6 HCS HB6
  have HPF : Hid (endT s3 e3 = 0 → pods2 D = L) := fun h => by
    have h0 : e3 = 0 := by
      unfold endT at h
      split at h
      · simp at h
      · exact h
    rw [HPD.out, gotM, if_pos h0]
  clear HPD
  generalize endT s3 e3 = E at *
  obtain ⟨y, hy⟩ : ∃ y, y = w2.heap.size := ⟨_, rfl⟩
  rw [← hy] at HBS
  have hzy : z < y := by
    have h3 := lt_of_at HM3.out.isT
    rw [World.size_alloc] at h3
    omega
  by_cases hE : E = 0
  case neg =>
    have HR : Hid (R = (E, 0, [])) := by rw [Hid, HEQ.out, if_pos hE]
    have e0 : (E != 0) = true := by simpa using hE
    clear HEQ hE HPF
    go_wp2_with (fail)
    rw [← hy]
    clear hy
    generalize w2.alloc (.cells #[.int .u64 q, .slice a D.length c] 49) = W3 at *
    refine HEN.out.mono ?_
    rintro r w4 ⟨rfl, rfl⟩
    obtain ⟨q0, q1, qf⟩ := st2_box HBX.out
    have f0 := qf 0
    have f1 := qf 1
    clear qf
    go_wp2
    refine bodyPost_ret (v := .tuple #[st2 0 none 0 0, .int .i64 E]) (by simp [results, Try.results31, go_sem, st2, *]) rfl ⟨none, 0, [], ?_, ?_, Row2.nil _ _, ?_⟩
    · rw [HR.out]; rfl
    · rw [HR.out]; rfl
    · exact (HFR.out.setCell (p := ⟨z, 0, none⟩) (by rw [HZW.out]; exact Nat.le_refl _) _).setCell (p := ⟨z, 1, none⟩) (by rw [HZW.out]; exact Nat.le_refl _) _
  have HPL := Lib.hid (HPF.out hE)
  have HR1 : Hid (R = if chk2 L ≠ 0 then (chk2 L, 0, []) else (0, q, L)) := by rw [Hid, HEQ.out, if_neg (by simpa using hE)]
  subst hE
  have HCK : Hid (∀ W, Fresh (w2.alloc (.cells #[.int .u64 q, .slice a D.length c] 49)) W → Calls Try.prog 27 #[.agg #[.int .u64 q, .slice a D.length c]] W fun e w' => e = .returned (.int .i64 (chk2 L)) ∧ Fresh W w') := fun W f => by
    have := check2_any q a D c W (HROW.out.move f) HDF.out
    rw [HPL.out] at this
    exact this
  clear HEQ HPF HDF
  generalize hC : chk2 L = C at *
  clear hC
  by_cases hC : C = 0
  case neg =>
    have HR : Hid (R = (C, 0, [])) := by rw [Hid, HR1.out, if_pos hC]
    have e0 : (C != 0) = true := by simpa using hC
    clear HR1 hC
    go_wp2_with (fail)
    rw [← hy]
    clear hy
    generalize w2.alloc (.cells #[.int .u64 q, .slice a D.length c] 49) = W3 at *
    refine HEN.out.mono ?_
    rintro r w4 ⟨rfl, rfl⟩
    obtain ⟨d0, d1, _⟩ := st2_box HBS.out
    go_wp2_with (fail)
    refine (HCK.out _ (.refl _)).mono ?_
    rintro r w5 ⟨rfl, hf⟩
    obtain ⟨q0, q1, qf⟩ := st2_box (hf.at HBX.out)
    have f0 := qf 0
    have f1 := qf 1
    have HF5 := Lib.hid (HFR.out.trans hf)
    clear qf hf d0 d1
    go_wp2
    refine bodyPost_ret (v := .tuple #[st2 0 none 0 0, .int .i64 C]) (by simp [results, Try.results31, go_sem, st2, *]) rfl ⟨none, 0, [], ?_, ?_, Row2.nil _ _, ?_⟩
    · rw [HR.out]; rfl
    · rw [HR.out]; rfl
    · exact (HF5.out.setCell (p := ⟨z, 0, none⟩) (by rw [HZW.out]; exact Nat.le_refl _) _).setCell (p := ⟨z, 1, none⟩) (by rw [HZW.out]; exact Nat.le_refl _) _
  have HR : Hid (R = (0, q, L)) := by rw [Hid, HR1.out, if_neg (by simpa using hC)]
  subst hC
  clear HR1
  go_wp2_with (fail)
  rw [← hy]
  clear hy
  generalize w2.alloc (.cells #[.int .u64 q, .slice a D.length c] 49) = W3 at *
  refine HEN.out.mono ?_
  rintro r w4 ⟨rfl, rfl⟩
  obtain ⟨d0, d1, _⟩ := st2_box HBS.out
  go_wp2_with (fail)
  refine (HCK.out _ (.refl _)).mono ?_
  rintro r w5 ⟨rfl, hf⟩
  obtain ⟨q0, q1, qf⟩ := st2_box (hf.at HBX.out)
  obtain ⟨d0, d1, _⟩ := st2_box (hf.at HBS.out)
  have f0 := qf 0
  have f1 := qf 1
  have HF5 := Lib.hid (HFR.out.trans hf)
  have HRW5 := Lib.hid (HROW.out.move hf)
  clear qf hf
  go_wp2
  refine bodyPost_ret (v := .tuple #[st2 q a D.length c, .int .i64 0]) (by simp [results, Try.results31, go_sem, st2, *]) rfl ⟨a, c, D, ?_, ?_, ?_, ?_⟩
  · rw [HR.out]
  · rw [HR.out]; exact HPL.out
  · exact (HRW5.out.set HAB.out HAB2.out).set HAB.out HAB2.out
  · exact (HF5.out.setCell (p := ⟨z, 0, none⟩) (by rw [HZW.out]; exact Nat.le_refl _) _).setCell (p := ⟨z, 1, none⟩) (by rw [HZW.out]; exact Nat.le_refl _) _
end Go.Proofs.Ytphjhlnjfcfdcaa
namespace Go.Proofs.Ytphjhlnjfcfdcaa
open Go.ChangeShapes Go.WideShapes Go.ChangeAt Go.RowKit

/-- Is a byte one of these? -/
def oneOf (b : UInt8) (l : List UInt8) : Bool := l.any fun c => decide (c = b)
theorem u8_eq (a b : UInt8) : decide (a = b) = ((a.toNat : Int) == (b.toNat : Int)) := by
  rw [Bool.eq_iff_iff]
  simp only [decide_eq_true_eq, beq_iff_eq, ← UInt8.toNat_inj]
  omega
set_option maxRecDepth 100000 in
theorem rin_any (b : UInt8) (s : ByteArray) (w : World) (hs : s.size ≤ 4000000) : Calls Try.prog 70 #[.int .u8 (b.toNat : Int), .string s] w fun e w' => e = .returned (.bool (oneOf b s.data.toList)) ∧ w = w' := by
  have HSZ : Hid (s.data.toList.length = s.size) := by rw [Hid]; simp
  go_enter Try.func70, Try.ntmps70
  go_wp2
  go_loopw [5] (fun a5 wr => ∃ (k : Nat), a5 = .int .i64 (k : Int) ∧ k ≤ s.size ∧ w = wr ∧ Hid (∀ c ∈ s.data.toList.take k, decide (c = b) = false)) (fun a5 _ => s.size - (intOf a5).toNat)
  case atStart => exact ⟨0, rfl, Nat.zero_le _, rfl, by simp [Hid]⟩
  case round =>
    obtain ⟨k, rfl, hk, rfl, HA⟩ := hrel
    by_cases hlt : k < s.size
    · have HG : Hid (s.data.toList[k]? = some s[k]) := by rw [Hid, List.getElem?_eq_getElem (by rw [HSZ.out]; exact hlt)]; rfl
      have HT := Lib.hid (take_snoc s k hlt)
      have HE := Lib.hid (u8_eq s[k] b)
      by_cases hp : (s[k].toNat : Int) = (b.toNat : Int)
      · have HR : Hid (oneOf b s.data.toList = true) := by
          rw [Hid, oneOf, List.any_eq_true]
          exact ⟨s[k], List.mem_of_getElem? HG.out, by rw [HE.out, beq_iff_eq]; exact hp⟩
        go_wp2
        all_goals try (exfalso; omega)
        go_ret
        exact ⟨ret_bool HR.out.symm, rfl⟩
      · have HN : Hid (∀ c ∈ s.data.toList.take (k + 1), decide (c = b) = false) := by
          rw [Hid, HT.out]
          intro c hc
          rcases List.mem_append.1 hc with h | h
          · exact HA.out c h
          · rw [List.mem_singleton.1 h, HE.out, beq_eq_false_iff_ne]; exact hp
        go_wp2
        all_goals try (exfalso; omega)
        go_roundw
        case rel => exact ⟨k + 1, by simp, by omega, by trivial, HN.out⟩
        case measure => simp [intOf]; omega
    · obtain rfl : k = s.size := by omega
      have HR : Hid (oneOf b s.data.toList = false) := by
        rw [Hid, oneOf, List.any_eq_false]
        intro c hc
        have := HA.out c (by rw [← HSZ.out, List.take_length]; exact hc)
        rw [this]; simp
      go_wp2
      all_goals try (exfalso; omega)
      go_ret
      exact ⟨ret_bool HR.out.symm, rfl⟩
set_option maxRecDepth 100000 in
theorem rall_any (s t : ByteArray) (w : World) (hs : s.size ≤ 4000000) (ht : t.size ≤ 4000000) : Calls Try.prog 66 #[.string s, .string t] w fun e w' => e = .returned (.bool (s.data.toList.all fun c => oneOf c t.data.toList)) ∧ w = w' := by
  have HP := Lib.hid (fun c W => rin_any c t W ht)
  have HSZ : Hid (s.data.toList.length = s.size) := by rw [Hid]; simp
  go_enter Try.func66, Try.ntmps66
  go_wp2
  go_loopw [5] (fun a5 wr => ∃ (k : Nat), a5 = .int .i64 (k : Int) ∧ k ≤ s.size ∧ w = wr ∧ Hid (∀ c ∈ s.data.toList.take k, oneOf c t.data.toList = true)) (fun a5 _ => s.size - (intOf a5).toNat)
  case atStart => exact ⟨0, rfl, Nat.zero_le _, rfl, by simp [Hid]⟩
  case round =>
    obtain ⟨k, rfl, hk, rfl, HA⟩ := hrel
    by_cases hlt : k < s.size
    · have HG : Hid (s.data.toList[k]? = some s[k]) := by rw [Hid, List.getElem?_eq_getElem (by rw [HSZ.out]; exact hlt)]; rfl
      have HT := Lib.hid (take_snoc s k hlt)
      have HC := Lib.hid (fun W => HP.out s[k] W)
      cases hp : oneOf s[k] t.data.toList with
      | false =>
        rw [hp] at HC
        have HR : Hid ((s.data.toList.all fun c => oneOf c t.data.toList) = false) := by
          rw [Hid, Bool.eq_false_iff]
          intro h
          have := List.all_eq_true.1 h s[k] (List.mem_of_getElem? HG.out)
          rw [hp] at this; cases this
        clear hp
        go_wp2_with (go_at_call 70; refine (HC.out _).mono ?_; rintro e w' ⟨rfl, rfl⟩)
        all_goals try (exfalso; omega)
        go_ret
        exact ⟨ret_bool HR.out.symm, rfl⟩
      | true =>
        rw [hp] at HC
        have HN : Hid (∀ c ∈ s.data.toList.take (k + 1), oneOf c t.data.toList = true) := by
          rw [Hid, HT.out]
          intro c hc
          rcases List.mem_append.1 hc with h | h
          · exact HA.out c h
          · rw [List.mem_singleton.1 h]; exact hp
        clear hp
        go_wp2_with (go_at_call 70; refine (HC.out _).mono ?_; rintro e w' ⟨rfl, rfl⟩)
        all_goals try (exfalso; omega)
        go_roundw
        case rel => exact ⟨k + 1, by simp, by omega, by trivial, HN.out⟩
        case measure => simp [intOf]; omega
    · obtain rfl : k = s.size := by omega
      have HR : Hid ((s.data.toList.all fun c => oneOf c t.data.toList) = true) := by
        rw [Hid, List.all_eq_true]
        intro c hc
        exact HA.out c (by rw [← HSZ.out, List.take_length]; exact hc)
      go_wp2
      all_goals try (exfalso; omega)
      go_ret
      exact ⟨ret_bool HR.out.symm, rfl⟩

/-! ### which bytes -/
def smallS : ByteArray := ⟨#[97, 98, 99, 100, 101, 102, 103, 104, 105, 106, 107, 108, 109, 110, 111, 112, 113, 114, 115, 116, 117, 118, 119, 120, 121, 122]⟩
def greatS : ByteArray := ⟨#[65, 66, 67, 68, 69, 70, 71, 72, 73, 74, 75, 76, 77, 78, 79, 80, 81, 82, 83, 84, 85, 86, 87, 88, 89, 90]⟩
def digitS : ByteArray := ⟨#[48, 49, 50, 51, 52, 53, 54, 55, 56, 57]⟩
theorem rsmall_any (w : World) : Calls Try.prog 67 #[] w fun e w' => e = .returned (.string smallS) ∧ w = w' := by
  go_enter Try.func67, Try.ntmps67
  go_wp2
  go_ret
  exact ⟨rfl, rfl⟩
theorem rgreat_any (w : World) : Calls Try.prog 68 #[] w fun e w' => e = .returned (.string greatS) ∧ w = w' := by
  go_enter Try.func68, Try.ntmps68
  go_wp2
  go_ret
  exact ⟨rfl, rfl⟩
theorem rdigits_any (w : World) : Calls Try.prog 69 #[] w fun e w' => e = .returned (.string digitS) ∧ w = w' := by
  go_enter Try.func69, Try.ntmps69
  go_wp2
  go_ret
  exact ⟨rfl, rfl⟩
theorem all_u8 (p : UInt8 → Bool) (h : (List.range 256).all (fun n => p (UInt8.ofNat n)) = true) (c : UInt8) : p c = true := by
  have := List.all_eq_true.1 h c.toNat (List.mem_range.2 c.toNat_lt)
  simpa using this
def labS : ByteArray := ⟨#[97, 98, 99, 100, 101, 102, 103, 104, 105, 106, 107, 108, 109, 110, 111, 112, 113, 114, 115, 116, 117, 118, 119, 120, 121, 122, 48, 49, 50, 51, 52, 53, 54, 55, 56, 57, 45]⟩
def varS : ByteArray := ⟨#[97, 98, 99, 100, 101, 102, 103, 104, 105, 106, 107, 108, 109, 110, 111, 112, 113, 114, 115, 116, 117, 118, 119, 120, 121, 122, 65, 66, 67, 68, 69, 70, 71, 72, 73, 74, 75, 76, 77, 78, 79, 80, 81, 82, 83, 84, 85, 86, 87, 88, 89, 90, 48, 49, 50, 51, 52, 53, 54, 55, 56, 57, 95]⟩
def imgS : ByteArray := ⟨#[97, 98, 99, 100, 101, 102, 103, 104, 105, 106, 107, 108, 109, 110, 111, 112, 113, 114, 115, 116, 117, 118, 119, 120, 121, 122, 65, 66, 67, 68, 69, 70, 71, 72, 73, 74, 75, 76, 77, 78, 79, 80, 81, 82, 83, 84, 85, 86, 87, 88, 89, 90, 48, 49, 50, 51, 52, 53, 54, 55, 56, 57, 46, 95, 45, 47, 58, 64]⟩
def sdS : ByteArray := ⟨#[97, 98, 99, 100, 101, 102, 103, 104, 105, 106, 107, 108, 109, 110, 111, 112, 113, 114, 115, 116, 117, 118, 119, 120, 121, 122, 48, 49, 50, 51, 52, 53, 54, 55, 56, 57]⟩
theorem lab_set (c : UInt8) : oneOf c labS.data.toList = inL c := by
  have := all_u8 (fun c => oneOf c labS.data.toList == inL c) (by decide +kernel) c
  simpa using this
theorem var_set (c : UInt8) : oneOf c varS.data.toList = inV c := by
  have := all_u8 (fun c => oneOf c varS.data.toList == inV c) (by decide +kernel) c
  simpa using this
theorem img_set (c : UInt8) : oneOf c imgS.data.toList = inI c := by
  have := all_u8 (fun c => oneOf c imgS.data.toList == inI c) (by decide +kernel) c
  simpa using this
theorem dig_set (c : UInt8) : oneOf c digitS.data.toList = digB c := by
  have := all_u8 (fun c => oneOf c digitS.data.toList == digB c) (by decide +kernel) c
  simpa using this
theorem sd_set (c : UInt8) : oneOf c sdS.data.toList = (smallB c || digB c) := by
  have := all_u8 (fun c => oneOf c sdS.data.toList == (smallB c || digB c)) (by decide +kernel) c
  simpa using this
/-- The constants, with what they make together. -/
structure Sets (a b c l v i d : ByteArray) : Prop where
  sm : ∀ W, Calls Try.prog 67 #[] W fun e w' => e = .returned (.string a) ∧ W = w'
  gr : ∀ W, Calls Try.prog 68 #[] W fun e w' => e = .returned (.string b) ∧ W = w'
  di : ∀ W, Calls Try.prog 69 #[] W fun e w' => e = .returned (.string c) ∧ W = w'
  lab : a ++ c ++ ⟨#[45]⟩ = l
  var1 : a ++ b ++ c ++ ⟨#[95]⟩ = v
  img : a ++ b ++ c ++ ⟨#[46, 95, 45, 47, 58, 64]⟩ = i
  sd : a ++ c = d
  na : a.size = 26
  nb : b.size = 26
  nc : c.size = 10
  nl : l.size = 37
  nv : v.size = 63
  ni : i.size = 68
  nd : d.size = 36
  sl : ∀ x, oneOf x l.data.toList = inL x
  sv : ∀ x, oneOf x v.data.toList = inV x
  si : ∀ x, oneOf x i.data.toList = inI x
  sc : ∀ x, oneOf x c.data.toList = digB x
  sd2 : ∀ x, oneOf x d.data.toList = (smallB x || digB x)
theorem sets : Sets smallS greatS digitS labS varS imgS sdS where
  sm := rsmall_any
  gr := rgreat_any
  di := rdigits_any
  lab := by decide +kernel
  var1 := by decide +kernel
  img := by decide +kernel
  sd := by decide +kernel
  na := rfl
  nb := rfl
  nc := rfl
  nl := rfl
  nv := rfl
  ni := rfl
  nd := rfl
  sl := lab_set
  sv := var_set
  si := img_set
  sc := dig_set
  sd2 := sd_set
end Go.Proofs.Ytphjhlnjfcfdcaa
namespace Go.Proofs.Ytphjhlnjfcfdcaa
open Go.ChangeShapes Go.WideShapes Go.ChangeAt Go.RowKit

theorem some_ne (c : UInt8) : (some c != some (45 : UInt8)) = decide (¬ ((c.toNat : Int) = 45)) := by
  rw [Bool.eq_iff_iff]
  simp only [bne_iff_ne, ne_eq, Option.some.injEq, decide_eq_true_eq, ← UInt8.toNat_inj]
  show ¬ c.toNat = 45 ↔ _
  omega
set_option maxRecDepth 100000 in
theorem rlabel_any (s : ByteArray) (w : World) (hs : s.size ≤ 4000000) : Calls Try.prog 53 #[.string s] w fun e w' => e = .returned (.bool (labB s.data.toList)) ∧ w = w' := by
  have HSZ : Hid (s.data.toList.length = s.size) := by rw [Hid]; simp
  have HL : Hid (labB s.data.toList = ((decide (1 ≤ s.size) && decide (s.size ≤ 63)) && (s.data.toList.head? != some 45 && (s.data.toList.getLast? != some 45 && s.data.toList.all inL)))) := by
    rw [Hid, labB, HSZ.out]
  have HS := sets
  revert HS
  generalize smallS = a; generalize greatS = b; generalize digitS = c; generalize labS = l; generalize varS = v; generalize imgS = i; generalize sdS = d
  intro HS
  have HSM := Lib.hid HS.sm
  have HDI := Lib.hid HS.di
  have q0 := HS.lab
  have z1 := HS.na
  have z2 := HS.nc
  have z3 := HS.nl
  have HRA := Lib.hid (fun W => rall_any s l W hs (by omega))
  have HALL : Hid ((s.data.toList.all fun x => oneOf x l.data.toList) = s.data.toList.all inL) := by rw [Hid]; congr 1; funext x; exact HS.sl x
  rw [HALL.out] at HRA
  clear HS HALL
  by_cases h1 : 1 ≤ s.size
  · by_cases h2 : s.size ≤ 63
    · have hlast : s.size - 1 < s.size := by omega
      have h0 : 0 < s.size := by omega
      have HH : Hid (s.data.toList.head? = some s[0]) := by
        rw [Hid, List.head?_eq_getElem?, List.getElem?_eq_getElem (by rw [HSZ.out]; exact h0)]; rfl
      have HE : Hid (s.data.toList.getLast? = some s[s.size - 1]) := by
        rw [Hid, List.getLast?_eq_getElem?, HSZ.out, List.getElem?_eq_getElem (by rw [HSZ.out]; exact hlast)]; rfl
      have e1 : ((s.size : Int) - 1) = ((s.size - 1 : Nat) : Int) := by omega
      have HL2 : Hid (labB s.data.toList = (some s[0] != some 45 && (some s[s.size - 1] != some 45 && s.data.toList.all inL))) := by
        rw [Hid, HL.out, HH.out, HE.out, decide_eq_true h1, decide_eq_true h2]; rfl
      have B0 := Lib.hid (some_ne s[0])
      have B1 := Lib.hid (some_ne s[s.size - 1])
      clear HL HH HE hs
      generalize labB s.data.toList = r at *
      generalize s.data.toList.all inL = al at *
      cases al
      all_goals go_enter Try.func53, Try.ntmps53
      all_goals go_wp2_with (first | (go_at_call 67; refine (HSM.out _).mono ?_; rintro e w' ⟨rfl, rfl⟩) | (go_at_call 69; refine (HDI.out _).mono ?_; rintro e w' ⟨rfl, rfl⟩) | (go_at_call 66; refine (HRA.out _).mono ?_; rintro e w' ⟨rfl, rfl⟩))
      all_goals go_ret
      all_goals refine ⟨?_, rfl⟩
      all_goals refine ret_bool ?_
      all_goals rw [HL2.out, B0.out, B1.out]
      all_goals (first | (simp [*]; done) | (rw [Bool.eq_iff_iff]; simp [*]; done))
    · have HL2 : Hid (labB s.data.toList = false) := by
        rw [Hid, HL.out, decide_eq_false h2]; simp
      clear HL hs
      generalize labB s.data.toList = r at *
      go_enter Try.func53, Try.ntmps53
      go_wp2_with (fail)
      all_goals go_ret
      all_goals exact ⟨ret_bool HL2.out.symm, rfl⟩
  · have HL2 : Hid (labB s.data.toList = false) := by
      rw [Hid, HL.out, decide_eq_false h1]; simp
    clear HL hs
    generalize labB s.data.toList = r at *
    go_enter Try.func53, Try.ntmps53
    go_wp2_with (fail)
    all_goals go_ret
    all_goals exact ⟨ret_bool HL2.out.symm, rfl⟩
end Go.Proofs.Ytphjhlnjfcfdcaa
namespace Go.Proofs.Ytphjhlnjfcfdcaa
open Go.ChangeShapes Go.WideShapes Go.ChangeAt Go.RowKit

set_option maxRecDepth 100000 in
set_option maxHeartbeats 1000000 in
theorem rimage_drew (s : ByteArray) (w : World) (hs : s.size ≤ 4000000) : Calls Try.prog 36 #[.string s] w fun e w' => e = .returned (.bool (imgB s.data.toList)) ∧ ∃ m, w' = w.drewN m := by
  have HSZ : Hid (s.data.toList.length = s.size) := by rw [Hid]; simp
  have HS := sets
  revert HS
  generalize smallS = a; generalize greatS = b; generalize digitS = c; generalize labS = l; generalize varS = v; generalize imgS = i; generalize sdS = d
  intro HS
  have HSM := Lib.hid HS.sm
  have HGR := Lib.hid HS.gr
  have HDI := Lib.hid HS.di
  have HL : Hid (imgB s.data.toList = ((decide (1 ≤ s.size) && decide (s.size ≤ 255)) && ((smallB (s.data.toList.headD 0) || digB (s.data.toList.headD 0)) && s.data.toList.all inI))) := by
    rw [Hid, imgB, HSZ.out]
  have q0 := HS.img
  have q1 := HS.sd
  have z1 := HS.na
  have z2 := HS.nb
  have z3 := HS.nc
  have z4 := HS.ni
  have z5 := HS.nd
  have HRA := Lib.hid (fun W => rall_any s i W hs (by omega))
  have HALL : Hid ((s.data.toList.all fun x => oneOf x i.data.toList) = s.data.toList.all inI) := by rw [Hid]; congr 1; funext x; exact HS.si x
  rw [HALL.out] at HRA
  have HRI := Lib.hid (fun x W => rin_any x d W (by omega))
  have HIN := Lib.hid HS.sd2
  clear HS HALL
  by_cases h1 : 1 ≤ s.size
  · by_cases h2 : s.size ≤ 255
    · have h0 : 0 < s.size := by omega
      have HH : Hid (s.data.toList.headD 0 = s[0]) := by
        rw [Hid, List.headD_eq_head?_getD, List.head?_eq_getElem?, List.getElem?_eq_getElem (by rw [HSZ.out]; exact h0)]; rfl
      have HL2 : Hid (imgB s.data.toList = ((smallB (s[0]) || digB (s[0])) && s.data.toList.all inI)) := by
        rw [Hid, HL.out, HH.out, decide_eq_true h1, decide_eq_true h2]; rfl
      have HRI0 := Lib.hid (fun W => HRI.out s[0] W)
      rw [HIN.out] at HRI0
      clear HL HH hs HRI HIN
      generalize imgB s.data.toList = r at *
      generalize s.data.toList.all inI = al at *
      generalize (smallB s[0] || digB s[0]) = dg at *
      cases al
      all_goals go_enter Try.func36, Try.ntmps36
      all_goals go_wp2_with (fail)
      all_goals (have cb1 : decide ((1 : Int) ≤ (s.size : Int)) = true := decide_eq_true (by omega); have cb2 : decide ((s.size : Int) ≤ 255) = true := decide_eq_true (by omega); have ib : (0 : Int) < (s.size : Int) := by omega)
      all_goals go_quiet (first | (exact Calls.quiet_of_same ((HSM.out _).mono fun e w' h => ⟨h.1, h.2.symm⟩)) | (exact Calls.quiet_of_same ((HGR.out _).mono fun e w' h => ⟨h.1, h.2.symm⟩)) | (exact Calls.quiet_of_same ((HDI.out _).mono fun e w' h => ⟨h.1, h.2.symm⟩)) | (exact Calls.quiet_of_same ((HRA.out _).mono fun e w' h => ⟨h.1, h.2.symm⟩)) | (exact Calls.quiet_of_same ((HRI0.out _).mono fun e w' h => ⟨h.1, h.2.symm⟩)))
      all_goals go_wp2
      all_goals go_ret
      all_goals refine ⟨?_, _, rfl⟩
      all_goals refine ret_bool ?_
      all_goals rw [HL2.out]
      all_goals (cases dg <;> simp)
    · have HL2 : Hid (imgB s.data.toList = false) := by
        rw [Hid, HL.out, decide_eq_false h2]; simp
      clear HL hs
      generalize imgB s.data.toList = r at *
      go_enter Try.func36, Try.ntmps36
      go_wp2_with (fail)
      have cb1 : decide ((1 : Int) ≤ (s.size : Int)) = true := decide_eq_true (by omega)
      have cb2 : decide ((s.size : Int) ≤ 255) = false := decide_eq_false (by omega)
      go_quiet (fail)
      go_wp2
      go_ret
      exact ⟨ret_bool HL2.out.symm, _, rfl⟩
  · have HL2 : Hid (imgB s.data.toList = false) := by
      rw [Hid, HL.out, decide_eq_false h1]; simp
    clear HL hs
    generalize imgB s.data.toList = r at *
    go_enter Try.func36, Try.ntmps36
    go_wp2_with (fail)
    have cb1 : decide ((1 : Int) ≤ (s.size : Int)) = false := decide_eq_false (by omega)
    go_quiet (fail)
    go_wp2
    go_ret
    exact ⟨ret_bool HL2.out.symm, _, rfl⟩
theorem rimage_any (s : ByteArray) (w : World) (hs : s.size ≤ 4000000) : Calls Try.prog 36 #[.string s] w fun e w' => e = .returned (.bool (imgB s.data.toList)) ∧ Fresh w w' :=
  (rimage_drew s w hs).mono fun e w' ⟨h, m, hm⟩ => ⟨h, by rw [hm]; exact fresh_drewN _ _⟩
end Go.Proofs.Ytphjhlnjfcfdcaa
namespace Go.Proofs.Ytphjhlnjfcfdcaa
open Go.ChangeShapes Go.WideShapes Go.ChangeAt Go.RowKit

theorem srow_shape {w : World} {B : Nat} {v : Value} {l : List (List UInt8)} (h : SBuf w B v l) : ∃ o c, v = .slice o l.length c := by
  rcases h.2 with ⟨h1, h2⟩ | ⟨g, cap, c2, h1, _⟩
  · exact ⟨none, 0, by rw [h1, h2]⟩
  · exact ⟨_, _, h1⟩
/-- How far a text is cut. -/
def CutAt (l : List UInt8) (f i : Nat) (out : List (List UInt8)) : Prop := lnsA [] l = out ++ lnsA ((l.take i).drop f) (l.drop i)
theorem cutAt_start (l : List UInt8) : CutAt l 0 0 [] := by simp [CutAt]
theorem cutAt_next {l : List UInt8} {f i : Nat} {out : List (List UInt8)} (h : CutAt l f i out) (hf : f ≤ i) (hi : i < l.length) (hc : l[i] ≠ 46) : CutAt l f (i + 1) out := by
  unfold CutAt at *
  rw [h, List.drop_eq_getElem_cons hi, lnsA, if_neg hc, List.take_succ_eq_append_getElem hi, List.drop_append_of_le_length (by rw [List.length_take]; omega)]
theorem cutAt_cut {l : List UInt8} {f i : Nat} {out : List (List UInt8)} (h : CutAt l f i out) (hi : i < l.length) (hc : l[i] = 46) : CutAt l (i + 1) (i + 1) (out ++ [(l.take i).drop f]) := by
  unfold CutAt at *
  rw [h, List.drop_eq_getElem_cons hi, lnsA, if_pos hc, List.drop_take_self]
  simp
theorem cutAt_end {l : List UInt8} {f : Nat} {out : List (List UInt8)} (h : CutAt l f l.length out) : lnsA [] l = out ++ [(l.take l.length).drop f] := by
  unfold CutAt at *
  rw [h]; simp [lnsA]
theorem cutAt_len {l : List UInt8} {f i : Nat} {out : List (List UInt8)} (h : CutAt l f i out) : out.length ≤ l.length + 1 := by
  have := lnsA_len [] l
  unfold CutAt at h
  rw [h, List.length_append] at this
  omega
set_option maxRecDepth 100000 in
set_option maxHeartbeats 2000000 in
theorem rcut_any (l : List UInt8) (w : World) (hs : l.length ≤ 4000000) : Calls Try.prog 65 #[.string (tx l)] w fun e w' => ∃ v, e = .returned v ∧ SBuf w' w.heap.size v (lnsA [] l) ∧ Fresh w w' := by
  obtain ⟨i0, hi, hz0, hz1, hz2⟩ := info_parts info9
  have HSZ := Lib.hid (tx_size l)
  have HGET : Hid (∀ (k : Nat) (h : k < (tx l).size) (h' : k < l.length), (tx l)[k]'h = l[k]'h') := fun k h h' => rfl
  have HEX : Hid (∀ f i, (tx l).extract f i = tx ((l.take i).drop f)) := fun f i => by
    rw [tx_extract, tx_toList, List.drop_take]
  have hs2 : (tx l).size ≤ 4000000 := by rw [tx_size]; exact hs
  generalize tx l = S at *
  clear hs
  go_enter Try.func65, Try.ntmps65
  go_wp2
  go_loopw [3, 4, 5] (fun a3 a4 a5 wr => ∃ (f i : Nat) (out : List (List UInt8)) (v : Value), a3 = v ∧ a4 = .int .i64 (f : Int) ∧ a5 = .int .i64 (i : Int) ∧ i ≤ S.size + 1 ∧ Hid (i ≤ S.size → f ≤ i) ∧ Hid (i ≤ S.size → CutAt l f i out) ∧ Hid (¬ i ≤ S.size → lnsA [] l = out) ∧ Hid (SBuf wr w.heap.size v out) ∧ Hid (Fresh w wr)) (fun _ _ a5 _ => S.size + 1 - (intOf a5).toNat)
  case atStart => exact ⟨0, 0, [], _, rfl, rfl, rfl, by omega, fun _ => by omega, fun _ => cutAt_start l, fun h => absurd (Nat.zero_le _) h, World.ownsRow_nil _ _ _ _, Fresh.refl _⟩
  case round =>
    obtain ⟨f, i, out, v, rfl, rfl, rfl, hle, HFI, HC, HE, HB, HF⟩ := hrel
    by_cases hin : i ≤ S.size
    · have hfi := HFI.out hin
      have hol := cutAt_len (HC.out hin)
      have HOL : Hid (out.length ≤ 5000000) := by rw [Hid]; have := HSZ.out; omega
      obtain ⟨o, c, hv⟩ := srow_shape HB.out
      subst hv
      have HSN : Hid (∀ (A : World) (u : Value) (x : List UInt8), A.ownsRow w.heap.size 9 1 u (out.length + 1) (scells out ++ [.string (tx x)]) → SBuf A w.heap.size u (out ++ [x])) := fun A u x h => SBuf.more h
      have HX := Lib.hid (HEX.out f i)
      have hbs := HF.out.size
      clear hol
      by_cases hend : i = S.size
      · subst hend
        have HDONE : Hid (lnsA [] l = out ++ [(l.take S.size).drop f]) := by
          have := HC.out hin
          rw [HSZ.out] at this ⊢
          exact cutAt_end this
        go_wp2_with (at_builtin; refine wpList_append_own _ rfl _ _ 114 rfl w.heap.size 9 i0 (.string ⟨#[]⟩) 1 16 Try.underlying114 hi hz0 hz1 hz2 rfl (by decide) _ _ _ rfl (World.ownsRow.alloc HB.out _) ⟨wr.heap.size, 0, none⟩ 1 1 [.string (S.extract f S.size)] rfl rfl (cell_one_new _ _ _) (by simp [Value.oneCell']) (by have := HOL.out; unfold maxLen; omega) (by have := HOL.out; omega) (by rw [World.size_alloc]; omega) ?_; intro v' w3 hown' hgrow _; obtain ⟨g', cap', rfl⟩ := ownsRow_succ hown'; have HOWN := Lib.hid hown'; have HGROW := Lib.hid hgrow; clear hown' hgrow)
        all_goals try (exfalso; omega)
        go_roundw
        case rel => 
          refine ⟨S.size + 1, S.size + 1, out ++ [(l.take S.size).drop f], _, rfl, by simp, by simp, by omega, fun h => by omega, fun h => by omega, fun _ => HDONE.out, ?_, ?_⟩
          · have := HOWN.out
            rw [HX.out] at this
            exact HSN.out _ _ _ this
          · exact (HF.out.alloc _).grown HGROW.out (fun g e => (HB.out.lt g e).1)
        case measure => simp [intOf]
      · have hlt : i < S.size := by omega
        have HLT : Hid (i < l.length) := by rw [Hid, ← HSZ.out]; exact hlt
        have HGI := Lib.hid (HGET.out i hlt HLT.out)
        have e0 : ((i : Int) == (S.size : Int)) = false := by rw [beq_eq_false_iff_ne]; omega
        by_cases hpt : (S[i].toNat : Int) = 46
        · have HNX : Hid (CutAt l (i + 1) (i + 1) (out ++ [(l.take i).drop f])) := cutAt_cut (HC.out hin) HLT.out (by
            rw [← HGI.out, ← UInt8.toNat_inj]
            show S[i].toNat = 46
            omega)
          go_wp2_with (at_builtin; refine wpList_append_own _ rfl _ _ 114 rfl w.heap.size 9 i0 (.string ⟨#[]⟩) 1 16 Try.underlying114 hi hz0 hz1 hz2 rfl (by decide) _ _ _ rfl (World.ownsRow.alloc HB.out _) ⟨wr.heap.size, 0, none⟩ 1 1 [.string (S.extract f i)] rfl rfl (cell_one_new _ _ _) (by simp [Value.oneCell']) (by have := HOL.out; unfold maxLen; omega) (by have := HOL.out; omega) (by rw [World.size_alloc]; omega) ?_; intro v' w3 hown' hgrow _; obtain ⟨g', cap', rfl⟩ := ownsRow_succ hown'; have HOWN := Lib.hid hown'; have HGROW := Lib.hid hgrow; clear hown' hgrow)
          all_goals try (exfalso; omega)
          go_roundw
          case rel => 
            refine ⟨i + 1, i + 1, out ++ [(l.take i).drop f], _, rfl, by simp, by simp, by omega, fun h => by omega, fun _ => HNX.out, fun h => by omega, ?_, ?_⟩
            · have := HOWN.out
              rw [HX.out] at this
              exact HSN.out _ _ _ this
            · exact (HF.out.alloc _).grown HGROW.out (fun g e => (HB.out.lt g e).1)
          case measure => simp [intOf]; omega
        · have HNX : Hid (CutAt l f (i + 1) out) := cutAt_next (HC.out hin) hfi HLT.out (fun e => hpt (by
            rw [HGI.out, e]; rfl))
          go_wp2
          all_goals try (exfalso; omega)
          go_roundw
          case rel => exact ⟨f, i + 1, out, _, rfl, rfl, by simp, by omega, fun _ => by omega, fun _ => HNX.out, fun h => by omega, HB.out, HF.out⟩
          case measure => simp [intOf]; omega
    · have HE2 := HE.out hin
      obtain ⟨o, c, hv⟩ := srow_shape HB.out
      subst hv
      go_wp2
      all_goals try (exfalso; omega)
      go_ret
      exact ⟨_, rfl, by rw [HE2]; exact HB.out, HF.out⟩
theorem name_alt (l : List UInt8) : nameB l = ((lnsA [] l).all labB && decide (l.length ≤ 253)) := by
  unfold nameB
  cases l with
  | nil => simp [lnsA, labB]
  | cons c r =>
    rw [decide_eq_true (by simp : 1 ≤ (c :: r).length), Bool.true_and, Bool.and_comm]
set_option maxRecDepth 100000 in
set_option maxHeartbeats 1000000 in
theorem rname_any (l : List UInt8) (w : World) (hs : l.length ≤ 4000000) : Calls Try.prog 35 #[.string (tx l)] w fun e w' => e = .returned (.bool (nameB l)) ∧ Fresh w w' := by
  have HCUT := Lib.hid (fun W => rcut_any l W hs)
  have HLB : Hid (∀ (k : Nat) (h : k < (lnsA [] l).length) W, Calls Try.prog 53 #[.string (tx (lnsA [] l)[k])] W fun e w' => e = .returned (.bool (labB (lnsA [] l)[k])) ∧ W = w') := fun k h W => by
    have := rlabel_any (tx (lnsA [] l)[k]) W (by rw [tx_size]; have := lnsA_mem l [] _ (List.getElem_mem h); simp at this; omega)
    rwa [tx_toList] at this
  have HNA := Lib.hid (name_alt l)
  have hpos : 0 < (lnsA [] l).length := List.length_pos_iff.2 (lnsA_ne [] l)
  have hle := lnsA_len [] l
  have hsz := tx_size l
  rw [HNA.out]
  clear HNA
  generalize lnsA [] l = ps at *
  generalize hS : tx l = S at *
  have hs2 : S.size ≤ 4000000 := by omega
  have HSZ := Lib.hid hsz
  have HPL : Hid (ps.length ≤ 5000000) := by rw [Hid]; omega
  clear hsz hle hs hS
  go_enter Try.func35, Try.ntmps35
  go_wp2_with (fail)
  refine (HCUT.out _).mono ?_
  rintro e w1 ⟨v, rfl, hrow, hf⟩
  obtain ⟨g, cap, rfl⟩ : ∃ g cap, v = .slice (some ⟨g, 0, none⟩) ps.length cap := by
    rcases hrow.2 with ⟨_, h0⟩ | ⟨g, cap, cur, h1, _⟩
    · omega
    · exact ⟨g, cap, h1⟩
  have HROW := Lib.hid hrow
  have HF := Lib.hid hf
  clear hrow hf HCUT
  go_wp2
  go_loopw [4] (fun a4 wr => ∃ (k : Nat), a4 = .int .i64 (k : Int) ∧ k ≤ ps.length ∧ w1 = wr ∧ Hid (∀ p ∈ ps.take k, labB p = true)) (fun a4 _ => ps.length - (intOf a4).toNat)
  case atStart => exact ⟨0, rfl, Nat.zero_le _, rfl, by simp [Hid]⟩
  case round =>
    obtain ⟨k, rfl, hk, rfl, HA⟩ := hrel
    have hpl := HPL.out
    by_cases hlt : k < ps.length
    · have HC := Lib.hid (HLB.out k hlt)
      have hcell := SBuf.cell HROW.out k hlt
      cases hp : labB ps[k] with
      | false =>
        rw [hp] at HC
        have HR : Hid ((ps.all labB && decide (l.length ≤ 253)) = false) := by
          rw [Hid, Bool.and_eq_false_iff]
          left
          rw [Bool.eq_false_iff]
          intro h
          have := List.all_eq_true.1 h ps[k] (List.getElem_mem hlt)
          rw [hp] at this; cases this
        clear hp
        generalize tx ps[k] = P at *
        go_wp2_with (go_at_call 53; refine (HC.out _).mono ?_; rintro e w' ⟨rfl, rfl⟩)
        all_goals try (exfalso; omega)
        go_ret
        exact ⟨ret_bool HR.out.symm, HF.out⟩
      | true =>
        rw [hp] at HC
        have HN : Hid (∀ p ∈ ps.take (k + 1), labB p = true) := by
          rw [Hid, List.take_succ_eq_append_getElem hlt]
          intro c hc
          rcases List.mem_append.1 hc with h | h
          · exact HA.out c h
          · rw [List.mem_singleton.1 h]; exact hp
        clear hp
        generalize tx ps[k] = P at *
        go_wp2_with (go_at_call 53; refine (HC.out _).mono ?_; rintro e w' ⟨rfl, rfl⟩)
        all_goals try (exfalso; omega)
        go_roundw
        case rel => exact ⟨k + 1, by simp, by omega, by trivial, HN.out⟩
        case measure => simp [intOf]; omega
    · obtain rfl : k = ps.length := by omega
      have HR : Hid ((ps.all labB && decide (l.length ≤ 253)) = decide ((S.size : Int) ≤ 253)) := by
        rw [Hid]
        have : ps.all labB = true := by
          rw [List.all_eq_true]
          intro c hc
          exact HA.out c (by rw [List.take_length]; exact hc)
        rw [this, Bool.true_and, Bool.eq_iff_iff]
        simp only [decide_eq_true_eq]
        rw [HSZ.out]; omega
      go_wp2
      all_goals try (exfalso; omega)
      go_ret
      exact ⟨ret_bool HR.out.symm, HF.out⟩
end Go.Proofs.Ytphjhlnjfcfdcaa
