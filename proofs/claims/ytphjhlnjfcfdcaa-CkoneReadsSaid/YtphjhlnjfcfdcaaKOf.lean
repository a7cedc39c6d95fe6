/-
  A state of version 1, as the document has it: the same texts and numbers, in a row of its own.
-/
import Derived.Test.YtphjhlnjfcfdcaaKLaw
namespace Go.Proofs.Ytphjhlnjfcfdcaa
open Go.ChangeShapes Go.WideShapes Go.ChangeAt Go.RowKit
set_option maxRecDepth 100000

/-- What Of answers. -/
def OfIs (seq : Int) (l : List P1) (w : World) (r : Ending) (w' : World) : Prop :=
  ∃ a c, r = .returned (st1 seq a l.length c) ∧ w'.ownsRow w.heap.size 67 4 (.slice a l.length c) l.length (p1s l) ∧ Fresh w w'
set_option maxHeartbeats 4000000 in
theorem of_any (seq : Int) (a : Option Addr) (l : List P1) (c : Nat) (w : World) (h : RowAt w a (p1s l)) (hl : l.length ≤ 4000000) :
    Calls Try.prog 11 #[st1 seq a l.length c] w (OfIs seq l w) := by
  have HROW := Lib.hid h
  obtain ⟨i0, hi, hz0, hz1, hz2⟩ := info_parts info2
  dsimp only [st1]
  clear h
  unfold OfIs
  have hA := at_new ((w.alloc (.cells #[.int .u32 seq, .slice a l.length c] 25)).alloc (.cells #[.int .u32 0, .slice none 0 0] 30)) (.cells #[.int .u32 seq, .slice none 0 0] 30)
  rw [World.size_alloc, World.size_alloc] at hA
  have hB := at_new (w.alloc (.cells #[.int .u32 seq, .slice a l.length c] 25)) (.cells #[.int .u32 0, .slice none 0 0] 30)
  rw [World.size_alloc] at hB
  have hB := at_alloc (p := .cells #[.int .u32 seq, .slice none 0 0] 30) hB
  have HF0 := Lib.hid ((((Fresh.refl w).alloc (.cells #[.int .u32 seq, .slice a l.length c] 25)).alloc (.cells #[.int .u32 0, .slice none 0 0] 30)).alloc (.cells #[.int .u32 seq, .slice none 0 0] 30))
  have HA := Lib.hid hA
  have HB := Lib.hid hB
  clear hA hB
  go_enter Try.func11, Try.ntmps11
  go_wp2
  generalize ((w.alloc (.cells #[.int .u32 seq, .slice a l.length c] 25)).alloc (.cells #[.int .u32 0, .slice none 0 0] 30)).alloc (.cells #[.int .u32 seq, .slice none 0 0] 30) = W0 at *
  obtain ⟨b, hb⟩ : ∃ b, b = w.heap.size := ⟨_, rfl⟩
  have HBW := Lib.hid hb
  rw [← hb] at HA HB ⊢
  clear hb
  go_loopw [12] (fun a12 wr => ∃ (k : Nat) (o : Option Addr) (c : Nat), a12 = .int .i64 (k : Int) ∧ k ≤ l.length ∧ Hid (wr.heap[b + 1]? = some (.cells #[.int .u32 0, .slice none 0 0] 30)) ∧ Hid (wr.heap[b + 2]? = some (.cells #[.int .u32 seq, .slice o k c] 30)) ∧
    Hid (wr.ownsRow (b + 3) 67 4 (.slice o k c) k (p1s (l.take k))) ∧ Hid (Fresh w wr)) (fun a12 _ => l.length - (intOf a12).toNat)
  case atStart => exact ⟨0, none, 0, rfl, Nat.zero_le _, HB.out, HA.out, World.ownsRow_nil _ _ _ _, HF0.out⟩
  case round =>
    clear HA HB
    obtain ⟨k, o, c2, rfl, hk, HB1, HB2, HOW, HF⟩ := hrel
    by_cases hlt : k < l.length
    · obtain ⟨g, o1, rfl, hc⟩ := p1_form (HROW.out.move HF.out) hlt
      obtain ⟨c0, c1, c2', c3⟩ := hc k hlt
      have HTK : Hid (p1s (l.take (k + 1)) = p1s (l.take k) ++ [.string l[k].file, .string l[k].name, .string l[k].image, .int .u8 l[k].r]) := by rw [Hid, List.take_succ_eq_append_getElem hlt, p1s_snoc]
      have hsz3 : b + 2 < wr.heap.size := lt_of_at HB2.out
      clear hc
      generalize l[k] = p at *
      obtain ⟨s0, s1, s2, n3⟩ := p
      dsimp only at *
      obtain ⟨q0, q1, qf⟩ := st1_box HB2.out
      have f1 := qf 1
      clear qf
      have HLT : Hid (∀ g, (Value.slice o k c2).ownBlock = some g → b + 3 ≤ g) := fun g e => (World.ownsRow.lt HOW.out g e).1
      have HN : Hid (∀ j u, [Value.string s0, .string s1, .string s2, .int .u8 n3][j]? = some u → ((wr.alloc (.cells #[.string s0, .string s1, .string s2, .int .u8 n3] 66)).alloc (.cells #[.string s0, .string s1, .string s2, .int .u8 n3] 67)).cell? ((⟨wr.heap.size + 1, 0, none⟩ : Addr).add j) = some u) := by
        have := news7 (wr.alloc (.cells #[.string s0, .string s1, .string s2, .int .u8 n3] 66)) 67 [.string s0, .string s1, .string s2, .int .u8 n3]
        rw [World.size_alloc] at this
        exact this
      go_wp2_with (at_builtin; refine Hid.out ?_)
      all_goals try (exfalso; omega)
      refine Lib.hid ?_
      refine wpList_append_own _ rfl _ _ 28 rfl (b + 3) 67 i0 (.agg #[.string ⟨#[]⟩, .string ⟨#[]⟩, .string ⟨#[]⟩, .int .u8 0]) 4 56 Try.underlying28 hi hz0 hz1 hz2 rfl (by decide) _ k _ rfl (World.ownsRow.alloc (World.ownsRow.alloc HOW.out _) _) ⟨wr.heap.size + 1, 0, none⟩ 1 1 [.string s0, .string s1, .string s2, .int .u8 n3] rfl rfl HN.out (by simp [Value.oneCell']) (by unfold maxLen; omega) (by omega) (by rw [World.size_alloc, World.size_alloc]; omega) ?_
      intro v' w3 hown' hgrow _
      obtain ⟨g', cap', rfl⟩ := ownsRow_succ hown'
      have hb2 := (hgrow.block (b + 2) (by rw [World.size_alloc, World.size_alloc]; omega) (fun e => by have := HLT.out (b + 2) e.symm; omega)).trans (at_alloc (at_alloc HB2.out))
      have hb1 := (hgrow.block (b + 1) (by rw [World.size_alloc, World.size_alloc]; omega) (fun e => by have := HLT.out (b + 1) e.symm; omega)).trans (at_alloc (at_alloc HB1.out))
      have HOWN := Lib.hid hown'
      have HB1r := Lib.hid hb1
      have HB2r := Lib.hid hb2
      have HFR := Lib.hid (((HF.out.alloc _).alloc _).grown hgrow (fun g e => by have := HLT.out g e; have := HBW.out; omega))
      obtain ⟨k0, k1, kf⟩ := st1_box hb2
      have kf1 := kf 1
      clear hown' hgrow hb1 hb2 c0 c1 c2' c3 q0 q1 f1 kf
      go_wp2
      go_roundw
      case rel =>
        refine ⟨k + 1, some ⟨g', 0, none⟩, cap', by simp, by omega, at_off HB1r.out (by omega) _, at_set HB2r.out 1 _, ?_, ?_⟩
        · rw [HTK.out]
          exact own_set (p := ⟨b + 2, 1, none⟩) HOWN.out (by show b + 2 < b + 3; omega) (.slice (some ⟨g', 0, none⟩) (k + 1) cap')
        · exact HFR.out.setCell (p := ⟨b + 2, 1, none⟩) (by have := HBW.out; show _ ≤ b + 2; omega) _
      case measure => simp [intOf]; omega
    · obtain rfl : k = l.length := by omega
      obtain ⟨p0, p1, _⟩ := st1_box HB2.out
      obtain ⟨q0, q1, hfz⟩ := st1_box HB1.out
      have f0 := hfz 0
      have f1 := hfz 1
      clear hfz
      go_wp2
      all_goals try (exfalso; omega)
      refine bodyPost_ret (v := st1 seq o l.length c2) (by simp [results, Try.f11, go_sem, st1, *]) rfl ⟨o, c2, rfl, ?_, ?_⟩
      · have hown := HOW.out
        rw [List.take_length] at hown
        refine World.ownsRow.mono (base := b + 3) ?_ (by have := HBW.out; omega)
        exact own_set (p := ⟨b + 1, 1, none⟩) (own_set (p := ⟨b + 1, 0, none⟩) hown (by show b + 1 < b + 3; omega) _) (by show b + 1 < b + 3; omega) _
      · exact (HF.out.setCell (p := ⟨b + 1, 0, none⟩) (by have := HBW.out; show _ ≤ b + 1; omega) _).setCell (p := ⟨b + 1, 1, none⟩) (by have := HBW.out; show _ ≤ b + 1; omega) _
end Go.Proofs.Ytphjhlnjfcfdcaa
