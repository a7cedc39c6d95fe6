/-
  bosunlaw20.Awake: the document's example.
  bosunref20.Two: a state of version 2 made of one of version 1, as the document has it.
-/
import Derived.Test.YtldncgelghcjeaaGreatDoorUpd05
import Derived.Test.YtldncgelghcjeaaGreatDoorUpd06
import Derived.Test.YtldncgelghcjeaaGreatDoorUpd01
import Derived.Test.YtldncgelghcjeaaGreatDoorUpd02
import Derived.Test.YtldncgelghcjeaaGreatDoorUpd04
set_option linter.unusedSimpArgs false
set_option linter.unusedVariables false
namespace Go.Proofs.YtldncgelghcjeaaGreatDoor.K
open Go.ChangeShapes Go.WideShapes Go.ChangeAt Go.RowKit
set_option maxRecDepth 100000

theorem len_one {α : Type} {l : List α} (h : l.length = 1) : ∃ x, l = [x] := by
  match l, h with
  | [x], _ => exact ⟨x, rfl⟩
set_option maxHeartbeats 4000000 in
theorem awake20_any (w : World) (hT : Tabs w) : Calls Tryz.prog 26 #[] w fun e w' => e = .returned (.bool true) ∧ Fresh w w' := by
  have HT := Lib.hid hT
  have H17 := Lib.hid (fun W => awake17_any W)
  have H18 := Lib.hid (fun W => awake18_any W)
  have H19 := Lib.hid (fun W (f : Fresh w W) => awake19_any W (HT.out.move f))
  have HB : Hid (Calls Tryz.prog 34 #[.agg #[.int .u32 0, .slice (some ⟨w.heap.size, 0, none⟩) 1 1]] (w.alloc (.cells #[.string ⟨#[97]⟩, .string ⟨#[119, 101, 98]⟩, .string ⟨#[110, 103, 105, 110, 120]⟩, .int .u8 0] 154)) fun e w' => ∃ o cp, e = .returned (.agg #[.int .u64 0, .slice o 1 cp]) ∧ AtL [up2 (up1 ⟨⟨#[97]⟩, ⟨#[119, 101, 98]⟩, ⟨#[110, 103, 105, 110, 120]⟩, 0⟩)] w' o ∧ Fresh w w') := by
    have := both_any 0 (some ⟨w.heap.size, 0, none⟩) [⟨⟨#[97]⟩, ⟨#[119, 101, 98]⟩, ⟨#[110, 103, 105, 110, 120]⟩, 0⟩] 1 (w.alloc (.cells #[.string ⟨#[97]⟩, .string ⟨#[119, 101, 98]⟩, .string ⟨#[110, 103, 105, 110, 120]⟩, .int .u8 0] 154))
      (.inr ⟨w.heap.size, 0, rfl, fun j x hj => by rw [Nat.zero_add]; exact cell_of_at (at_new w _) (by simpa [p1s, P1.cells] using hj)⟩) (by simp) (fun p hp => by
        obtain rfl := List.mem_singleton.1 hp
        exact ⟨by decide, by decide, by decide, by decide, by decide⟩) (by decide) (by decide)
    exact this.mono (fun e w' ⟨o, cp, h1, h2, h3⟩ => ⟨o, cp, h1, h2, ((Fresh.refl w).alloc _).trans h3⟩)
  clear hT
  go_enter Tryz.func26, Tryz.ntmps26
  go_wp2_with (fail)
  refine HB.out.mono ?_
  rintro e w1 ⟨o, cp, rfl, ⟨D, hD, hr⟩, hf⟩
  have HF := Lib.hid (hf.alloc (.cells #[.int .u64 0, .slice o 1 cp] 25))
  have hB := at_new w1 (.cells #[.int .u64 0, .slice o 1 cp] 25)
  have hR := hr.move ((Fresh.refl w1).alloc (.cells #[.int .u64 0, .slice o 1 cp] 25))
  obtain ⟨x, rfl⟩ := len_one (l := D) (by rw [← pods3_length, hD]; rfl)
  obtain ⟨xf, ⟨xn, xs, xr, xg, xh, xa, xc, xl⟩⟩ := x
  have hx : xl.map (·.c) = [upC ⟨mainB, ⟨#[110, 103, 105, 110, 120]⟩⟩] := by
    have := List.cons.inj hD
    exact congrArg Pd.cs (P3.mk.inj this.1).2
  obtain ⟨cm, rfl⟩ := len_one (l := xl) (by have := congrArg List.length hx; simpa using this)
  obtain ⟨⟨cn, ci, lc, lp, n4, n5, le⟩, ka, kc, pa, pc, ea, ec⟩ := cm
  have hc := (List.cons.inj hx).1
  dsimp only [upC] at hc
  obtain ⟨rfl, rfl, rfl, rfl, rfl, rfl, rfl⟩ := Ct.mk.inj hc
  obtain ⟨g, o1, rfl, hg⟩ := m3_form hR.row (i0 := 0) (by simp)
  obtain ⟨c0, c1, c2, c3, c4, c5, c6⟩ := hg 0 (by simp)
  obtain ⟨g2, o2, e2, hg2⟩ := crow_form1 (hR.ins _ (List.mem_singleton.2 rfl)).row (i0 := 0) (by simp)
  obtain ⟨d0, d1, d2, d3, d4, d5, d6⟩ := hg2 0 (by simp)
  dsimp only at e2
  subst e2
  simp only [List.getElem_cons_zero, Nat.zero_mul, Nat.add_zero, List.length_cons, List.length_nil, Nat.zero_add] at c0 c1 c2 c3 c4 c5 c6 d0 d1 d2 d3 d4 d5 d6
  have b0 := cell_of_at hB (i := 0) rfl
  have b1 := cell_of_at hB (i := 1) rfl
  have HX := Lib.hid (two_boxes w1 (.cells #[.int .u64 0, .slice (some ⟨g, o1, none⟩) 1 cp] 25) (.cells #[.string mainB, .string ⟨#[110, 103, 105, 110, 120]⟩, .slice ka 0 kc, .slice pa 0 pc, .int .i64 100, .int .i64 64, .slice ea 0 ec] 126))
  have HV := Lib.hid (hf.trans HX.out.2.2.1)
  clear hg hg2 hD hr hR hB hf hx hc
  dsimp only [mainB] at *
  go_wp2_with (fail)
  all_goals try (exfalso; omega)
  clear c0 c1 c2 c3 c4 c5 c6 d0 d1 d2 d3 d4 d5 d6 b0 b1
  refine (H17.out _).mono ?_
  rintro e w2 ⟨rfl, hf⟩
  have HC := Lib.hid (hf.at HX.out.2.1)
  have HV := Lib.hid (HV.out.trans hf)
  clear hf HX
  go_wp2_with (fail)
  refine (H18.out _).mono ?_
  rintro e w3 ⟨rfl, hf⟩
  have HC := Lib.hid (hf.at HC.out)
  have HV := Lib.hid (HV.out.trans hf)
  clear hf
  go_wp2_with (fail)
  refine (H19.out _ HV.out).mono ?_
  rintro e w4 ⟨rfl, hf⟩
  have hc := hf.at HC.out
  have HV := Lib.hid (HV.out.trans hf)
  have q0 := cell_of_at hc (i := 0) rfl
  have q1 := cell_of_at hc (i := 1) rfl
  have q4 := cell_of_at hc (i := 4) rfl
  clear hf hc HC
  go_wp2
  go_ret
  exact ⟨rfl, HV.out⟩
end Go.Proofs.YtldncgelghcjeaaGreatDoor.K
namespace Go.Proofs.YtldncgelghcjeaaGreatDoor.K
open Go.ChangeShapes Go.WideShapes Go.ChangeAt Go.RowKit
set_option maxRecDepth 100000

theorem OS.grownA {w W W' : World} {b : Nat} {seq : Int} {o : Option Addr} {k c : Nat} {D : List M2} (h : OS w W b seq o k c D) {m : M2} (hm : m.Own (b + 3) W) (hg : W.grownBy W' (Value.slice o k c).ownBlock) {o' : Option Addr} {c' : Nat}
    (hr : W'.ownsRow (b + 3) 164 6 (.slice o' (k + 1) c') (k + 1) (m2s (D ++ [m]))) : OS w (W'.setCell ⟨b + 2, 1, none⟩ (.slice o' (k + 1) c')) b seq o' (k + 1) c' (D ++ [m]) := by
  have hlt : ∀ g, (Value.slice o k c).ownBlock = some g → b + 3 ≤ g := fun g e => (World.ownsRow.lt h.row g e).1
  have hat : ∀ {x : Nat} {z : Obj}, x ≤ b + 2 → W.heap[x]? = some z → W'.heap[x]? = some z := fun {x z} hx hz => (hg.block x (lt_of_at hz) (fun e => by have := hlt x e.symm; omega)).trans hz
  refine ⟨h.hb, at_off (hat (by omega) h.r) (by omega) _, at_set (hat (Nat.le_refl _) h.st) 1 _, own_set (p := ⟨b + 2, 1, none⟩) hr (by show b + 2 < b + 3; omega) _, fun x hx => ?_, ?_⟩
  · refine own_set (p := ⟨b + 2, 1, none⟩) ?_ (by show b + 2 < b + 3; omega) _
    rcases List.mem_append.1 hx with hx | hx
    · exact own_kept_ne2 (h.each x hx) h.row (by decide) hg
    · rw [List.mem_singleton.1 hx]
      exact own_kept_ne2 hm h.row (by decide) hg
  · exact (h.fr.grown hg (fun g e => by have := hlt g e; have := h.hb; omega)).setCell (p := ⟨b + 2, 1, none⟩) (by show w.heap.size ≤ b + 2; have := h.hb; omega) _
/-- What is handed back, behind the store into the result's box. -/
theorem OS.done {w W : World} {b : Nat} {seq : Int} {o : Option Addr} {k c : Nat} {D : List M2} (h : OS w W b seq o k c D) (u v : Value) : AtP (pods2 D) ((W.setCell ⟨b + 1, 0, none⟩ u).setCell ⟨b + 1, 1, none⟩ v) o ∧ Fresh w ((W.setCell ⟨b + 1, 0, none⟩ u).setCell ⟨b + 1, 1, none⟩ v) := by
  refine ⟨⟨D, rfl, RowAt.owns (own_set (p := ⟨b + 1, 1, none⟩) (own_set (p := ⟨b + 1, 0, none⟩) h.row (by show b + 1 < b + 3; omega) _) (by show b + 1 < b + 3; omega) _), fun m hm => ?_⟩, ?_⟩
  · exact M2.Own.in (N := b + 3) (own_set (p := ⟨b + 1, 1, none⟩) (own_set (p := ⟨b + 1, 0, none⟩) (h.each m hm) (by show b + 1 < b + 3; omega) _) (by show b + 1 < b + 3; omega) _)
  · exact (h.fr.setCell (p := ⟨b + 1, 0, none⟩) (by have := h.hb; show _ ≤ b + 1; omega) _).setCell (p := ⟨b + 1, 1, none⟩) (by have := h.hb; show _ ≤ b + 1; omega) _
theorem wrap_u64r {v : Int} (h0 : 0 ≤ v) (h1 : v ≤ 18446744073709551615) : IntKind.u64.wrap v = v := by simp [IntKind.wrap, IntKind.signed, IntKind.bits]; omega
set_option maxHeartbeats 8000000 in
theorem rtwo_any (seq : Int) (a : Option Addr) (l : List P1) (c : Nat) (w : World) (h : RowAt w a (p1s l)) (hl : l.length ≤ 4000000) (hs0 : 0 ≤ seq) (hs1 : seq ≤ 4294967295) :
    Calls Tryz.prog 31 #[st1 seq a l.length c] w fun e w' => ∃ o cp, e = .returned (st2 seq o l.length cp) ∧ AtP (l.map up1) w' o ∧ Fresh w w' := by
  have HROW := Lib.hid h
  have hwr := wrap_u64r hs0 (by omega)
  obtain ⟨i0, hi, hz0, hz1, hz2⟩ := info_parts infoRP2
  dsimp only [st1, st2]
  clear h
  have hA := at_new ((w.alloc (.cells #[.int .u32 seq, .slice a l.length c] 71)).alloc (.cells #[.int .u64 0, .slice none 0 0] 75)) (.cells #[.int .u64 seq, .slice none 0 0] 75)
  rw [World.size_alloc, World.size_alloc] at hA
  have hB := at_new (w.alloc (.cells #[.int .u32 seq, .slice a l.length c] 71)) (.cells #[.int .u64 0, .slice none 0 0] 75)
  rw [World.size_alloc] at hB
  have hB := at_alloc (p := .cells #[.int .u64 seq, .slice none 0 0] 75) hB
  have hC := at_alloc (p := .cells #[.int .u64 seq, .slice none 0 0] 75) (at_alloc (p := .cells #[.int .u64 0, .slice none 0 0] 75) (at_new w (.cells #[.int .u32 seq, .slice a l.length c] 71)))
  have hOS : OS w (((w.alloc (.cells #[.int .u32 seq, .slice a l.length c] 71)).alloc (.cells #[.int .u64 0, .slice none 0 0] 75)).alloc (.cells #[.int .u64 seq, .slice none 0 0] 75)) w.heap.size seq none 0 0 [] :=
    ⟨rfl, hB, hA, World.ownsRow_nil _ _ _ _, by simp, (((Fresh.refl w).alloc _).alloc _).alloc _⟩
  have HOS0 := Lib.hid hOS
  have HBX0 := Lib.hid hC
  clear hA hB hC hOS
  go_enter Tryz.func31, Tryz.ntmps31
  go_wp2
  generalize ((w.alloc (.cells #[.int .u32 seq, .slice a l.length c] 71)).alloc (.cells #[.int .u64 0, .slice none 0 0] 75)).alloc (.cells #[.int .u64 seq, .slice none 0 0] 75) = W0 at *
  obtain ⟨b, hb⟩ : ∃ b, b = w.heap.size := ⟨_, rfl⟩
  have HBW := Lib.hid hb
  rw [← hb] at HOS0 HBX0 ⊢
  clear hb
  go_loopw [4] (fun a4 wr => ∃ (k : Nat) (o : Option Addr) (cp : Nat) (D : List M2), a4 = .int .i64 (k : Int) ∧ k ≤ l.length ∧ Hid (D.length = k) ∧ Hid (pods2 D = (l.take k).map up1) ∧ Hid (wr.heap[b]? = some (.cells #[.int .u32 seq, .slice a l.length c] 71)) ∧ Hid (OS w wr b seq o k cp D)) (fun a4 _ => l.length - (intOf a4).toNat)
  case atStart => exact ⟨0, none, 0, [], rfl, Nat.zero_le _, rfl, rfl, HBX0.out, HOS0.out⟩
  case round =>
  clear HOS0 HBX0
  obtain ⟨k, o, cp, D, rfl, hk, HD, HPD, HBX, HOS⟩ := hrel
  have p0 := cell_of_at HBX.out (i := 0) rfl
  have p1 := cell_of_at HBX.out (i := 1) rfl
  by_cases hlt : k < l.length
  case pos =>
    obtain ⟨g, o1, rfl, hc⟩ := p1_form (HROW.out.move HOS.out.fr) hlt
    obtain ⟨c0, c1, c2', c3⟩ := hc k hlt
    have HTK : Hid ((l.take (k + 1)).map up1 = (l.take k).map up1 ++ [up1 l[k]]) := by
      rw [Hid, List.take_succ_eq_append_getElem hlt, List.map_append]; rfl
    have hsz3 : b + 2 < wr.heap.size := lt_of_at HOS.out.st
    clear hc
    generalize l[k] = m at *
    obtain ⟨x1, x2, x3, x4⟩ := m
    dsimp only at *
    have q0 := cell_of_at HOS.out.st (i := 0) rfl
    have q1 := cell_of_at HOS.out.st (i := 1) rfl
    have g1 := frozen_of_at HOS.out.st 1
    have hlit := own_lit (w := wr.alloc (.cells #[.string x1, .string x2, .string x3, .int .u8 x4] 161)) (e := 165) (k := 2) [.string mainB, .string x3] rfl
    rw [World.size_alloc] at hlit
    have HLIT : Hid (M2.Own (b + 3) ((wr.alloc (.cells #[.string x1, .string x2, .string x3, .int .u8 x4] 161)).alloc (.cells #[.string mainB, .string x3] 165)) ⟨up1 ⟨x1, x2, x3, x4⟩, some ⟨wr.heap.size + 1, 0, none⟩, 1⟩) := World.ownsRow.mono hlit (by omega)
    have HOQ := Lib.hid (HOS.out.fresh (((Fresh.refl wr).alloc (.cells #[.string x1, .string x2, .string x3, .int .u8 x4] 161)).alloc (.cells #[.string mainB, .string x3] 165)))
    have HN : Hid (∀ j u, [Value.string x1, .string x2, .string nsDef, .int .u8 x4, .int .u16 30, .slice (some ⟨wr.heap.size + 1, 0, none⟩) 1 1][j]? = some u → (((wr.alloc (.cells #[.string x1, .string x2, .string x3, .int .u8 x4] 161)).alloc (.cells #[.string mainB, .string x3] 165)).alloc (.cells #[.string x1, .string x2, .string nsDef, .int .u8 x4, .int .u16 30, .slice (some ⟨wr.heap.size + 1, 0, none⟩) 1 1] 164)).cell? ((⟨wr.heap.size + 1 + 1, 0, none⟩ : Addr).add j) = some u) := by
      have := news7 ((wr.alloc (.cells #[.string x1, .string x2, .string x3, .int .u8 x4] 161)).alloc (.cells #[.string mainB, .string x3] 165)) 164 [.string x1, .string x2, .string nsDef, .int .u8 x4, .int .u16 30, .slice (some ⟨wr.heap.size + 1, 0, none⟩) 1 1]
      rw [World.size_alloc, World.size_alloc] at this
      exact this
    have HBX3 := Lib.hid (at_alloc (p := .cells #[.string x1, .string x2, .string nsDef, .int .u8 x4, .int .u16 30, .slice (some ⟨wr.heap.size + 1, 0, none⟩) 1 1] 164) (at_alloc (p := .cells #[.string mainB, .string x3] 165) (at_alloc (p := .cells #[.string x1, .string x2, .string x3, .int .u8 x4] 161) HBX.out)))
    clear hlit
    have HUP : Hid (up1 ⟨x1, x2, x3, x4⟩ = ⟨x1, x2, nsDef, x4, 30, [⟨mainB, x3⟩]⟩) := rfl
    dsimp only [mainB, nsDef] at *
    go_wp2_with (at_builtin; refine Hid.out ?_)
    all_goals try (exfalso; omega)
    refine Lib.hid ?_
    refine wpList_append_own _ rfl _ _ 73 rfl (b + 3) 164 i0 (.agg #[.string ⟨#[]⟩, .string ⟨#[]⟩, .string ⟨#[]⟩, .int .u8 0, .int .u16 0, .slice none 0 0]) 6 80 Tryz.underlying73 hi hz0 hz1 hz2 rfl (by decide) _ k _ rfl (World.ownsRow.alloc HOQ.out.row _) ⟨wr.heap.size + 1 + 1, 0, none⟩ 1 1 [.string x1, .string x2, .string nsDef, .int .u8 x4, .int .u16 30, .slice (some ⟨wr.heap.size + 1, 0, none⟩) 1 1] rfl rfl HN.out (by simp [Value.oneCell']) (by unfold maxLen; omega) (by omega) (by rw [World.size_alloc, World.size_alloc, World.size_alloc]; omega) ?_
    intro v' w8 hown' hgrow _
    obtain ⟨g', cap', rfl⟩ := ownsRow_succ hown'
    have HND : Hid (OS w (w8.setCell ⟨b + 2, 1, none⟩ (.slice (some ⟨g', 0, none⟩) (k + 1) cap')) b seq (some ⟨g', 0, none⟩) (k + 1) cap' (D ++ [(⟨up1 ⟨x1, x2, x3, x4⟩, some ⟨wr.heap.size + 1, 0, none⟩, 1⟩ : M2)])) :=
      (HOQ.out.fresh ((Fresh.refl _).alloc _)).grownA (own_fresh HLIT.out ((Fresh.refl _).alloc _)) hgrow (by rw [m2s_snoc]; exact hown')
    have hlt8 : ∀ g, (Value.slice o k cp).ownBlock = some g → b + 3 ≤ g := fun g e => (World.ownsRow.lt HOS.out.row g e).1
    have hb2 := (hgrow.block (b + 2) (by rw [World.size_alloc, World.size_alloc, World.size_alloc]; omega) (fun e => by have := hlt8 (b + 2) e.symm; omega)).trans (at_alloc HOQ.out.st)
    have HB8 := Lib.hid ((hgrow.block b (by rw [World.size_alloc, World.size_alloc, World.size_alloc]; omega) (fun e => by have := hlt8 b e.symm; omega)).trans HBX3.out)
    have k1 := cell_of_at hb2 (i := 1) rfl
    have kf := frozen_of_at hb2 1
    clear hown' hgrow hb2 hlt8 q0 q1 g1 p0 p1
    go_wp2
    go_roundw
    case rel =>
      refine ⟨k + 1, some ⟨g', 0, none⟩, cap', D ++ [(⟨up1 ⟨x1, x2, x3, x4⟩, some ⟨wr.heap.size + 1, 0, none⟩, 1⟩ : M2)], by simp, by omega, ?_, ?_, at_off HB8.out (by omega) _, HND.out⟩
      · rw [Hid, List.length_append, HD.out]; rfl
      · rw [Hid, pods2_snoc, HPD.out, HTK.out]
    case measure => simp [intOf]; omega
  case neg =>
    obtain rfl : k = l.length := by omega
    have z0 := cell_of_at HOS.out.st (i := 0) rfl
    have z1 := cell_of_at HOS.out.st (i := 1) rfl
    have r0 := cell_of_at HOS.out.r (i := 0) rfl
    have r1 := cell_of_at HOS.out.r (i := 1) rfl
    have f0 := frozen_of_at HOS.out.r 0
    have f1 := frozen_of_at HOS.out.r 1
    go_wp2
    all_goals try (exfalso; omega)
    have HP : Hid (pods2 D = l.map up1) := by rw [Hid, HPD.out, List.take_length]
    refine bodyPost_ret (v := st2 seq o l.length cp) (by simp [results, Tryz.results31, go_sem, st2, *]) rfl ⟨o, cp, rfl, ?_⟩
    rw [← HP.out]
    exact HOS.out.done _ _
end Go.Proofs.YtldncgelghcjeaaGreatDoor.K
