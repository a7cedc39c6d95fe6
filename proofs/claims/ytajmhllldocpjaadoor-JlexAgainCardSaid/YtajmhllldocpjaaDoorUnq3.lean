/-
  Package utf's reader, of whatever text: escapes and characters.
-/
import Derived.Test.YtajmhllldocpjaaDoorUnq2
namespace Go.Proofs.YtajmhllldocpjaaDoor
open Go.ChangeShapes Go.WideShapes Go.ChangeAt Go.RowKit
attribute [local go_sem ↓] Go.wp_at_zero Go.wp_at_succ
variable {w : World}

set_option maxRecDepth 100000 in
set_option maxHeartbeats 1000000 in
theorem escape_47 (b : Nat) (rest : List UInt8) (v : Value) (text : List UInt8) (w : World) (hl : text.length ≤ 1000000) (h : Rdr w b (47 :: rest) v text) : Calls Tryd.prog 40 #[.pointer (some ⟨b, 0, none⟩)] w (Reads w b rest (text ++ [47]) 0) := by
  obtain ⟨i0, hi, hz0, hz1, hz2⟩ := info_parts info5
  have c0 := h.c0
  have c1 := h.c1
  have f0 := h.f0
  have f1 := h.f1
  have H1 := Lib.hid (h.set0 (r2 := rest))
  have hbw := lt_of_at h.box
  obtain ⟨p1, p2, p3, p4⟩ := bs_cons 47 rest
  generalize bs (47 :: rest) = r at *
  generalize bs rest = r1 at *
  clear h
  go_enter Tryd.func40, Tryd.ntmps40
  go_wp2_with (first
    | (at_builtin; refine wpList_append_lies _ rfl _ _ 57 rfl (b + 1) 5 i0 (.int .u8 0) 1 1 Tryd.underlying57 hi hz0 hz1 hz2 rfl (by decide) v text.length (vals text) rfl (H1.out.buf.alloc _) ⟨w.heap.size, 0, none⟩ 1 1 (vals [47]) rfl rfl (news_set w _ _ _ _ rfl) (vals_one _) (by decide) (by unfold maxLen; omega) (by omega) (by simp; omega) (w.heap.size + 1) (by simp) ?_; intro g cap w2 hown hgrow hat hlt; have HP := Lib.hid (H1.out.push (Buf.more hown rfl) (grown_alloc hgrow)); clear hown hgrow hat hlt; have d1 := HP.out.c1; have d2 := HP.out.f1; have d3 := HP.out.lt))
  go_ret
  exact ⟨rfl, ⟨_, HP.out.rdr⟩, Rdr.below0.trans HP.out.below⟩
/-- Behind a \\. -/
def escF (l : List UInt8) : Int × List UInt8 × List UInt8 := match l with
  | [] => (11, [], [])
  | c :: r => if c = 98 then (0, [8], r) else if c = 102 then (0, [12], r) else if c = 110 then (0, [10], r) else if c = 114 then (0, [13], r) else if c = 116 then (0, [9], r)
    else if c = 34 then (0, [34], r) else if c = 92 then (0, [92], r) else if c = 47 then (0, [47], r) else if c = 117 then byNumF r else (6, [], [])
theorem escape_num (b : Nat) (rest : List UInt8) (v : Value) (text : List UInt8) (w : World) (hl : text.length ≤ 100000) (h : Rdr w b (117 :: rest) v text) :
    Calls Tryd.prog 40 #[.pointer (some ⟨b, 0, none⟩)] w (After w b text (byNumF rest)) := by
  have c0 := h.c0
  have f0 := h.f0
  have hbw := lt_of_at h.box
  have HN := Lib.hid (byNumber_all b rest v text _ hl (h.set0 (r2 := rest)))
  obtain ⟨p1, p2, p3, p4⟩ := bs_cons 117 rest
  generalize bs (117 :: rest) = r at *
  generalize bs rest = r1 at *
  generalize byNumF rest = Z at *
  obtain ⟨x, m, r2⟩ := Z
  clear h
  go_enter Tryd.func40, Tryd.ntmps40
  go_wp2_with fail
  refine HN.out.mono ?_
  rintro e w2 ⟨rfl, hr2, hb2⟩
  have HR := Lib.hid hr2
  have HB := Lib.hid hb2
  clear hr2 hb2
  dsimp only
  go_wp2
  go_ret
  exact ⟨rfl, HR.out, Rdr.below0.trans HB.out⟩
theorem escape_none (b : Nat) (v : Value) (text : List UInt8) (w : World) (h : Rdr w b [] v text) :
    Calls Tryd.prog 40 #[.pointer (some ⟨b, 0, none⟩)] w (After w b text (11, [], [])) := by
  have c0 := h.c0
  have e0 : bs [] = ⟨#[]⟩ := rfl
  rw [e0] at c0
  clear h e0
  go_enter Tryd.func40, Tryd.ntmps40
  go_wp2
  go_ret
  exact ⟨rfl, (fun e => by simp at e), Below.refl _ _⟩
theorem escape_bad (b : Nat) (c : UInt8) (rest : List UInt8) (v : Value) (text : List UInt8) (w : World) (hc : ∀ d ∈ ([98, 102, 110, 114, 116, 34, 92, 47, 117] : List UInt8), c ≠ d) (h : Rdr w b (c :: rest) v text) :
    Calls Tryd.prog 40 #[.pointer (some ⟨b, 0, none⟩)] w (After w b text (6, [], [])) := by
  have c0 := h.c0
  have f0 := h.f0
  have hbw := lt_of_at h.box
  have ne : ∀ d : UInt8, d ∈ ([98, 102, 110, 114, 116, 34, 92, 47, 117] : List UInt8) → ((c.toNat : Int) == (d.toNat : Int)) = false := fun d hd => by
    rw [beq_eq_false_iff_ne]
    intro e
    exact hc d hd (UInt8.toNat_inj.1 (by omega))
  have n1 : ((c.toNat : Int) == 98) = false := ne 98 (by decide)
  have n2 : ((c.toNat : Int) == 102) = false := ne 102 (by decide)
  have n3 : ((c.toNat : Int) == 110) = false := ne 110 (by decide)
  have n4 : ((c.toNat : Int) == 114) = false := ne 114 (by decide)
  have n5 : ((c.toNat : Int) == 116) = false := ne 116 (by decide)
  have n6 : ((c.toNat : Int) == 34) = false := ne 34 (by decide)
  have n7 : ((c.toNat : Int) == 92) = false := ne 92 (by decide)
  have n8 : ((c.toNat : Int) == 47) = false := ne 47 (by decide)
  have n9 : ((c.toNat : Int) == 117) = false := ne 117 (by decide)
  obtain ⟨p1, p2, p3, p4⟩ := bs_cons c rest
  generalize bs (c :: rest) = r at *
  generalize bs rest = r1 at *
  clear h hc ne
  go_enter Tryd.func40, Tryd.ntmps40
  go_wp2
  go_ret
  exact ⟨rfl, (fun e => by simp at e), Rdr.below0⟩
theorem escape_all (b : Nat) (l : List UInt8) (v : Value) (text : List UInt8) (w : World) (hl : text.length ≤ 100000) (h : Rdr w b l v text) :
    Calls Tryd.prog 40 #[.pointer (some ⟨b, 0, none⟩)] w (After w b text (escF l)) := by
  have hl2 : text.length ≤ 1000000 := by omega
  rcases l with _ | ⟨c, r⟩
  · exact escape_none b v text w h
  by_cases c1 : c = 98
  · subst c1; rw [escF, if_pos rfl]; exact (escape_98 b r v text w hl2 h).mono fun _ _ => After.of_reads
  by_cases c2 : c = 102
  · subst c2; rw [escF, if_neg c1, if_pos rfl]; exact (escape_102 b r v text w hl2 h).mono fun _ _ => After.of_reads
  by_cases c3 : c = 110
  · subst c3; rw [escF, if_neg c1, if_neg c2, if_pos rfl]; exact (escape_110 b r v text w hl2 h).mono fun _ _ => After.of_reads
  by_cases c4 : c = 114
  · subst c4; rw [escF, if_neg c1, if_neg c2, if_neg c3, if_pos rfl]; exact (escape_114 b r v text w hl2 h).mono fun _ _ => After.of_reads
  by_cases c5 : c = 116
  · subst c5; rw [escF, if_neg c1, if_neg c2, if_neg c3, if_neg c4, if_pos rfl]; exact (escape_116 b r v text w hl2 h).mono fun _ _ => After.of_reads
  by_cases c6 : c = 34
  · subst c6; rw [escF, if_neg c1, if_neg c2, if_neg c3, if_neg c4, if_neg c5, if_pos rfl]; exact (escape_34 b r v text w hl2 h).mono fun _ _ => After.of_reads
  by_cases c7 : c = 92
  · subst c7; rw [escF, if_neg c1, if_neg c2, if_neg c3, if_neg c4, if_neg c5, if_neg c6, if_pos rfl]; exact (escape_92 b r v text w hl2 h).mono fun _ _ => After.of_reads
  by_cases c8 : c = 47
  · subst c8; rw [escF, if_neg c1, if_neg c2, if_neg c3, if_neg c4, if_neg c5, if_neg c6, if_neg c7, if_pos rfl]; exact (escape_47 b r v text w hl2 h).mono fun _ _ => After.of_reads
  by_cases c9 : c = 117
  · subst c9; rw [escF, if_neg c1, if_neg c2, if_neg c3, if_neg c4, if_neg c5, if_neg c6, if_neg c7, if_neg c8, if_pos rfl]; exact escape_num b r v text w hl h
  rw [escF, if_neg c1, if_neg c2, if_neg c3, if_neg c4, if_neg c5, if_neg c6, if_neg c7, if_neg c8, if_neg c9]
  refine escape_bad b c r v text w (fun d hd => ?_) h
  simp only [List.mem_cons, List.not_mem_nil, or_false] at hd
  rcases hd with rfl | rfl | rfl | rfl | rfl | rfl | rfl | rfl | rfl <;> assumption
/-- How many bytes the first character takes. -/
def chLen (l : List UInt8) : Nat := (Lib.decodeGo (bs l)).2
theorem chLen_bd (l : List UInt8) (h : l ≠ []) : 1 ≤ chLen l ∧ chLen l ≤ l.length ∧ chLen l ≤ 4 := by
  have hl : 0 < l.length := List.length_pos_iff.2 h
  rw [chLen, dec_bs l h]
  unfold Lib.decodeN
  repeat' split
  all_goals first | (dsimp only; omega) | (simp; omega)
/-- A character: the code, its bytes, what is left. -/
def chrF (l : List UInt8) : Int × List UInt8 × List UInt8 := match l with
  | [] => (11, [], [])
  | c :: r => if c = 92 then escF r else if c.toNat < 32 ∨ Lib.validD ((c :: r).take (chLen (c :: r))) = false then (10, [], []) else (0, (c :: r).take (chLen (c :: r)), (c :: r).drop (chLen (c :: r)))
theorem char_none (b : Nat) (v : Value) (text : List UInt8) (w : World) (h : Rdr w b [] v text) :
    Calls Tryd.prog 32 #[.pointer (some ⟨b, 0, none⟩)] w (After w b text (11, [], [])) := by
  have c0 := h.c0
  have e0 : bs [] = ⟨#[]⟩ := rfl
  rw [e0] at c0
  clear h e0
  go_enter Tryd.func32, Tryd.ntmps32
  go_wp2
  go_ret
  exact ⟨rfl, (fun e => by simp at e), Below.refl _ _⟩
theorem char_back (b : Nat) (rest : List UInt8) (v : Value) (text : List UInt8) (w : World) (hl : text.length ≤ 100000) (h : Rdr w b (92 :: rest) v text) :
    Calls Tryd.prog 32 #[.pointer (some ⟨b, 0, none⟩)] w (After w b text (escF rest)) := by
  have c0 := h.c0
  have f0 := h.f0
  have hbw := lt_of_at h.box
  have HN := Lib.hid (escape_all b rest v text _ hl (h.set0 (r2 := rest)))
  obtain ⟨p1, p2, p3, p4⟩ := bs_cons 92 rest
  generalize bs (92 :: rest) = r at *
  generalize bs rest = r1 at *
  generalize escF rest = Z at *
  obtain ⟨x, m, r2⟩ := Z
  clear h
  go_enter Tryd.func32, Tryd.ntmps32
  go_wp2_with fail
  refine HN.out.mono ?_
  rintro e w2 ⟨rfl, hr2, hb2⟩
  have HR := Lib.hid hr2
  have HB := Lib.hid hb2
  clear hr2 hb2
  dsimp only
  go_wp2
  go_ret
  exact ⟨rfl, HR.out, Rdr.below0.trans HB.out⟩
set_option maxRecDepth 100000 in
set_option maxHeartbeats 2000000 in
theorem char_bad (b : Nat) (c : UInt8) (r : List UInt8) (v : Value) (text : List UInt8) (w : World) (hT : Tabs w) (hc : c.toNat ≠ 92) (hb : c.toNat < 32 ∨ Lib.validD ((c :: r).take (chLen (c :: r))) = false) (h : Rdr w b (c :: r) v text) :
    Calls Tryd.prog 32 #[.pointer (some ⟨b, 0, none⟩)] w (After w b text (10, [], [])) := by
  have c0 := h.c0
  have HR := Lib.hid h
  have HT := Lib.hid hT
  have HB0 := Lib.hid (Nat.le_of_lt (lt_of_at h.box))
  have hlen := chLen_bd (c :: r) (by simp)
  have e1 : ((c.toNat : Int) == 92) = false := by rw [beq_eq_false_iff_ne]; omega
  have q1 : (bs (c :: r)).extract 0 (chLen (c :: r)) = bs ((c :: r).take (chLen (c :: r))) := bs_take _ _
  have q2 : ((chLen (c :: r) : Nat) : Int) ≤ ((bs (c :: r)).size : Int) := by rw [bs_size]; omega
  have HDE : Hid (∀ W, Tabs W → Calls Tryd.prog 41 #[.string (bs (c :: r))] W fun e w' => (∃ x : Int, e = .returned (.tuple #[.int .i32 x, .int .i64 ((chLen (c :: r) : Nat) : Int)])) ∧ Fresh W w') := fun W hW => by
    refine (decode_any _ W hW).mono ?_
    rintro e w' ⟨he, hf⟩
    exact ⟨⟨_, he⟩, hf⟩
  have HV := Lib.hid (fun W hW => isValid_any (bs ((c :: r).take (chLen (c :: r)))) W (by rw [bs_size, List.length_take]; omega) hW)
  rw [bs_toList] at HV
  obtain ⟨p1, p2, _, p4⟩ := bs_cons c r
  have hq : 0 < chLen (c :: r) := by omega
  clear h hT hc
  generalize Lib.validD ((c :: r).take (chLen (c :: r))) = ok at *
  generalize bs ((c :: r).take (chLen (c :: r))) = q at *
  generalize chLen (c :: r) = n at *
  have HC0 : Hid (∀ W, Fresh w W → W.cell? ⟨b, 0, none⟩ = some (.string (bs (c :: r)))) := fun W f => (HR.out.fresh f).c0
  generalize bs (c :: r) = R at *
  clear hlen
  by_cases h32 : c.toNat < 32
  · have e2 : (c.toNat : Int) < 32 := by omega
    clear hb h32 HV
    go_enter Tryd.func32, Tryd.ntmps32
    go_wp2_with fail
    refine (HDE.out _ HT.out).mono ?_
    rintro e w1 ⟨⟨x, rfl⟩, hf1⟩
    have d0 := HC0.out _ hf1
    have HF1 := Lib.hid hf1
    clear hf1 c0
    go_wp2
    go_ret
    exact ⟨rfl, (fun e => by simp at e), Below.mono HF1.out HB0.out⟩
  · obtain rfl : ok = false := by rcases hb with hb | hb; exact absurd hb h32; exact hb
    have e2 : ¬ (c.toNat : Int) < 32 := by omega
    clear hb h32
    go_enter Tryd.func32, Tryd.ntmps32
    go_wp2_with fail
    refine (HDE.out _ HT.out).mono ?_
    rintro e w1 ⟨⟨x, rfl⟩, hf1⟩
    have d0 := HC0.out _ hf1
    have HF1 := Lib.hid hf1
    clear hf1 c0
    go_wp2_with fail
    refine (HV.out _ (HT.out.move HF1.out)).mono ?_
    rintro e w2 ⟨rfl, hf2⟩
    have HF2 := Lib.hid (HF1.out.trans hf2)
    clear hf2 d0
    go_wp2
    go_ret
    exact ⟨rfl, (fun e => by simp at e), Below.mono HF2.out HB0.out⟩
theorem char_all (b : Nat) (l : List UInt8) (v : Value) (text : List UInt8) (w : World) (hT : Tabs w) (hl : text.length ≤ 100000) (h : Rdr w b l v text) :
    Calls Tryd.prog 32 #[.pointer (some ⟨b, 0, none⟩)] w (After w b text (chrF l)) := by
  rcases l with _ | ⟨c, r⟩
  · exact char_none b v text w h
  by_cases hc : c = 92
  · subst hc
    rw [chrF, if_pos rfl]
    exact char_back b r v text w hl h
  have hc2 : c.toNat ≠ 92 := fun e => hc (UInt8.toNat_inj.1 e)
  by_cases hb : c.toNat < 32 ∨ Lib.validD ((c :: r).take (chLen (c :: r))) = false
  · rw [chrF, if_neg hc, if_pos hb]
    exact char_bad b c r v text w hT hc2 hb h
  · rw [chrF, if_neg hc, if_neg hb]
    have hlen := chLen_bd (c :: r) (by simp)
    have hv : Lib.validD ((c :: r).take (chLen (c :: r))) = true := by
      cases hv : Lib.validD ((c :: r).take (chLen (c :: r))) with
      | true => rfl
      | false => exact absurd (.inr hv) hb
    obtain ⟨n, hn⟩ : ∃ n, chLen (c :: r) = n + 1 := ⟨chLen (c :: r) - 1, by omega⟩
    have hd : (Lib.decodeGo (bs (c :: r))).2 = n + 1 := hn
    rw [hn] at hv hlen ⊢
    rw [List.take_succ_cons] at hv ⊢
    rw [List.drop_succ_cons]
    have hsp : c :: r = c :: r.take n ++ r.drop n := by simp
    rw [hsp] at h hd
    have hln : (c :: r.take n).length = n + 1 := by
      rw [List.length_cons, List.length_take]
      have := hlen.2.1
      rw [List.length_cons] at this
      omega
    have := char_plain b c (r.take n) (r.drop n) v text w hT (by omega) hc2 (by rw [hd, hln]) hv (by omega) hl h
    exact this.mono fun _ _ => After.of_reads
end Go.Proofs.YtajmhllldocpjaaDoor
