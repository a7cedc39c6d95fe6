/-
  bosunlaw20.UpgradeKeeps, walked. (printed by genkeeps.py.txt)
-/
import Derived.Test.YtldncgelghcjeaaGreatDoorUpd07
import Derived.Test.YtldncgelghcjeaaGreatDoorKee01
import Derived.Test.YtldncgelghcjeaaGreatDoorKee02
set_option linter.unusedSimpArgs false
set_option linter.unusedVariables false
namespace Go.Proofs.YtldncgelghcjeaaGreatDoor.K
open Go.ChangeShapes Go.WideShapes Go.ChangeAt Go.RowKit
set_option maxRecDepth 100000

theorem csW_le : ∀ (l : List C2) (B : Nat), (∀ c ∈ l, c.name.size ≤ B ∧ c.image.size ≤ B) → csW l ≤ l.length * (1 + 2 * B)
  | [], _, _ => by simp [csW]
  | c :: l, B, h => by
    have e : csW (c :: l) = c.w + csW l := by simp [csW]
    have h1 := csW_le l B (fun d hd => h d (List.mem_cons_of_mem _ hd))
    have h2 := h c List.mem_cons_self
    have hw : c.w = 1 + c.name.size + c.image.size := rfl
    rw [e, List.length_cons, Nat.succ_mul]
    omega
theorem P2.Sm.weight {p : P2} (h : p.Sm) : p.w + csW p.cs ≤ 2305843009213693952 := by
  have h1 := csW_le p.cs 1048576 h.1.cs
  have h2 : p.cs.length * (1 + 2 * 1048576) ≤ 1048576 * (1 + 2 * 1048576) := Nat.mul_le_mul h.2 (Nat.le_refl _)
  have hw : p.w = 1 + p.file.size + p.name.size + p.ns.size := rfl
  have := h.1.file; have := h.1.name; have := h.1.ns
  omega
theorem small2_fit {M : List P2} (hs : ∀ p ∈ M, p.Sm) (h : smB 0 M = true) : ∀ p ∈ M, p.Fit 20000 := fun p hp => by
  have k := (smB_short M 0 (by omega) (fun q hq => (hs q hq).weight) h).2 p hp
  have s := (hs p hp).1
  exact ⟨k.file, k.name, k.ns, s.r0, s.r1, s.g0, s.g1, k.cs⟩
theorem small1_fit {L : List P1} (hs : ∀ p ∈ L, p.Fit 1048576) (h : smA 0 L = true) : ∀ p ∈ L, p.Fit 20000 := fun p hp => by
  have k := (smA_fit L 0 h (by omega)).2 p hp
  exact ⟨k.1, k.2.1, k.2.2, (hs p hp).r0, (hs p hp).r1⟩
theorem rcheck2_at (seq : Int) (a : Option Addr) (L : List P2) (c : Nat) (w : World) (h : AtP L w a) (hf : ∀ p ∈ L, p.Fit 20000) (hl : L.length ≤ 4000000) :
    Calls Tryz.prog 38 #[st2 seq a L.length c] w fun e w' => e = .returned (.int .i64 (chk2 L)) ∧ Fresh w w' := by
  obtain ⟨D, rfl, hr⟩ := h
  rw [pods2_length] at hl ⊢
  exact rcheck2_any seq a D c w hr (fun m hm => hf _ (pods2_mem hm)) hl
def R1 (L : List P1) (W : World) (a : Option Addr) : Prop := RowAt W a (p1s L)
theorem R1.move {L : List P1} {W W' : World} {a : Option Addr} (h : R1 L W a) (f : Fresh W W') : R1 L W' a := RowAt.move h f
theorem three_boxes (w : World) (o p q : Obj) : (((w.alloc o).alloc p).alloc q).heap[w.heap.size]? = some o ∧ (((w.alloc o).alloc p).alloc q).heap[w.heap.size + 1]? = some p ∧ (((w.alloc o).alloc p).alloc q).heap[w.heap.size + 1 + 1]? = some q ∧ Fresh w (((w.alloc o).alloc p).alloc q) :=
  ⟨at_alloc (two_boxes w o p).1, at_alloc (two_boxes w o p).2.1, by have := at_new ((w.alloc o).alloc p) q; rw [World.size_alloc, World.size_alloc] at this; exact this, (two_boxes w o p).2.2.1.alloc _⟩
set_option maxHeartbeats 16000000 in
theorem keeps_any (s : Int) (a : Option Addr) (L : List P1) (c : Nat) (u : Int) (a2 : Option Addr) (L2 : List P1) (c2 : Nat) (t : Int) (a3 : Option Addr) (M : List P2) (c3 : Nat) (w : World) (h : RowAt w a (p1s L)) (h2 : RowAt w a2 (p1s L2)) (h3 : AtP M w a3) (hT : Tabs w)
    (hl : L.length ≤ 1048576) (hf : ∀ p ∈ L, p.Fit 1048576) (hs0 : 0 ≤ s) (hs1 : s ≤ 4294967295) (hl2 : L2.length ≤ 1048576) (hf2 : ∀ p ∈ L2, p.Fit 1048576) (hu0 : 0 ≤ u) (hu1 : u ≤ 4294967295) (hl3 : M.length ≤ 1048576) (hf3 : ∀ p ∈ M, p.Sm) (ht0 : 0 ≤ t) (ht1 : t ≤ 18446744073709551615) :
    Calls Tryz.prog 8 #[st1 s a L.length c, st1 u a2 L2.length c2, st2 t a3 M.length c3] w fun e w' => e = .returned (.bool true) ∧ Fresh w w' := by
  have HT := Lib.hid hT
  have HAW := Lib.hid (fun W (f : Fresh w W) => awake20_any W (HT.out.move f))
  have HX := Lib.hid (three_boxes w (.cells #[.int .u32 s, .slice a L.length c] 63) (.cells #[.int .u32 u, .slice a2 L2.length c2] 63) (.cells #[.int .u64 t, .slice a3 M.length c3] 66))
  have hbig : ∀ (K : List P1), (∀ p ∈ K, p.Fit 1048576) → ∀ p ∈ K, p.Fit 140737488355328 := fun K hk p hp => (hk p hp).mono (by decide)
  have HS1 := Lib.hid (fun W (f : Fresh w W) => small1_any s a L c W (h.move f) (hbig L hf) (by unfold maxLen; omega))
  have HS2 := Lib.hid (fun W (f : Fresh w W) => small1_any u a2 L2 c2 W (h2.move f) (hbig L2 hf2) (by unfold maxLen; omega))
  have HS3 := Lib.hid (fun W (f : Fresh w W) => small2_at t a3 M c3 W (h3.move f) (fun p hp => (hf3 p hp).1.mono (by decide)) (by unfold maxLen; omega) (fun p hp => by have := (hf3 p hp).2; unfold maxLen; omega))
  have HA1 : Hid (∀ W, Fresh w W → Calls Tryz.prog 27 #[.agg #[.int .u32 s, .slice a L.length c]] W fun e w' => ∃ o cp, e = .returned (.agg #[.int .u32 s, .slice o L.length cp]) ∧ R1 L w' o ∧ Fresh W w') := fun W f => (of_any s a L c W (h.move f) (by omega)).mono (fun e w' ⟨o, cp, e1, e2, e3⟩ => ⟨o, cp, e1, RowAt.owns e2, e3⟩)
  have HA2 : Hid (∀ W, Fresh w W → Calls Tryz.prog 27 #[.agg #[.int .u32 u, .slice a2 L2.length c2]] W fun e w' => ∃ o cp, e = .returned (.agg #[.int .u32 u, .slice o L2.length cp]) ∧ R1 L2 w' o ∧ Fresh W w') := fun W f => (of_any u a2 L2 c2 W (h2.move f) (by omega)).mono (fun e w' ⟨o, cp, e1, e2, e3⟩ => ⟨o, cp, e1, RowAt.owns e2, e3⟩)
  have HB1 : Hid (∀ W, Fresh w W → Calls Tryz.prog 34 #[.agg #[.int .u32 s, .slice a L.length c]] W fun e w' => ∃ o cp, e = .returned (.agg #[.int .u64 s, .slice o L.length cp]) ∧ AtL ((L.map up1).map up2) w' o ∧ Fresh W w') := fun W f => both_any s a L c W (h.move f) hl hf hs0 hs1
  have HB2 : Hid (∀ W, Fresh w W → Calls Tryz.prog 34 #[.agg #[.int .u32 u, .slice a2 L2.length c2]] W fun e w' => ∃ o cp, e = .returned (.agg #[.int .u64 u, .slice o L2.length cp]) ∧ AtL ((L2.map up1).map up2) w' o ∧ Fresh W w') := fun W f => both_any u a2 L2 c2 W (h2.move f) hl2 hf2 hu0 hu1
  have HT3 : Hid (∀ W, Fresh w W → Calls Tryz.prog 32 #[.agg #[.int .u64 t, .slice a3 M.length c3]] W fun e w' => ∃ o cp, e = .returned (.agg #[.int .u64 t, .slice o M.length cp]) ∧ AtL (M.map up2) w' o ∧ Fresh W w') := fun W f => (three_any t a3 M c3 W (h3.move f) hl3 hf3).mono (fun e w' ⟨o, cp, e1, e2, e3⟩ => ⟨o, cp, e1, e2.at, e3⟩)
  have hlo1 := mapS2 (mapS1 hf)
  have hlo2 := mapS2 (mapS1 hf2)
  have hlo3 := mapS2 hf3
  have hen1 : ((L.map up1).map up2).length = L.length := by rw [List.length_map, List.length_map]
  have hen2 : ((L2.map up1).map up2).length = L2.length := by rw [List.length_map, List.length_map]
  have hen3 : (M.map up2).length = M.length := List.length_map ..
  have HO1 : Hid (∀ W o cp, AtL ((L.map up1).map up2) W o → Calls Tryz.prog 11 #[.agg #[.int .u64 s, .slice o L.length cp]] W fun e w' => ∃ o cp, e = .returned (.agg #[.int .u64 s, .slice o L.length cp]) ∧ AtL ((L.map up1).map up2) w' o ∧ Fresh W w') := fun W o cp hp => by
    have := of3_at s o _ cp W hp (by rw [hen1]; exact hl) hlo1
    rw [hen1] at this
    exact this
  have HO2 : Hid (∀ W o cp, AtL ((L2.map up1).map up2) W o → Calls Tryz.prog 11 #[.agg #[.int .u64 u, .slice o L2.length cp]] W fun e w' => ∃ o cp, e = .returned (.agg #[.int .u64 u, .slice o L2.length cp]) ∧ AtL ((L2.map up1).map up2) w' o ∧ Fresh W w') := fun W o cp hp => by
    have := of3_at u o _ cp W hp (by rw [hen2]; exact hl2) hlo2
    rw [hen2] at this
    exact this
  have HO3 : Hid (∀ W o cp, AtL (M.map up2) W o → Calls Tryz.prog 11 #[.agg #[.int .u64 t, .slice o M.length cp]] W fun e w' => ∃ o cp, e = .returned (.agg #[.int .u64 t, .slice o M.length cp]) ∧ AtL (M.map up2) w' o ∧ Fresh W w') := fun W o cp hp => by
    have := of3_at t o _ cp W hp (by rw [hen3]; exact hl3) hlo3
    rw [hen3] at this
    exact this
  have HC1 : Hid (∀ W o cp, AtL ((L.map up1).map up2) W o → Calls Tryz.prog 12 #[.agg #[.int .u64 s, .slice o L.length cp]] W fun e w' => e = .returned (.int .i64 (chk3 ((L.map up1).map up2))) ∧ Fresh W w') := fun W o cp hp => by
    have := rcheck3_at s o _ cp W hp (by rw [hen1]; exact hl) hlo1
    rw [hen1] at this
    exact this
  have HC3 : Hid (∀ W o cp, AtL (M.map up2) W o → Calls Tryz.prog 12 #[.agg #[.int .u64 t, .slice o M.length cp]] W fun e w' => e = .returned (.int .i64 (chk3 (M.map up2))) ∧ Fresh W w') := fun W o cp hp => by
    have := rcheck3_at t o _ cp W hp (by rw [hen3]; exact hl3) hlo3
    rw [hen3] at this
    exact this
  have HOM : Hid (∀ W o cp, AtP M W o → Calls Tryz.prog 28 #[.agg #[.int .u64 t, .slice o M.length cp]] W fun r w' => ∃ o cp, r = .returned (.agg #[.int .u64 t, .slice o M.length cp]) ∧ AtP M w' o ∧ Fresh W w') := fun W o cp hp => of2_at t o M cp W hp (by omega) (fun p hp => Nat.le_trans (hf3 p hp).2 (by decide))
  have HZ17 : Hid (∀ W o cp o' cp', R1 L W o → R1 L2 W o' → Calls Tryz.prog 39 #[.agg #[.int .u32 s, .slice o L.length cp], .agg #[.int .u32 u, .slice o' L2.length cp']] W fun e w' => e = .returned (.bool (same1 s u L L2)) ∧ Fresh W w') := fun W o cp o' cp' k1 k2 => rsame_any s u L L2 o o' cp cp' W k1 k2 (by omega)
  have HZ19 : Hid (∀ W o cp o' cp', AtL ((L.map up1).map up2) W o → AtL ((L2.map up1).map up2) W o' → Calls Tryz.prog 21 #[.agg #[.int .u64 s, .slice o L.length cp], .agg #[.int .u64 u, .slice o' L2.length cp']] W fun e w' => e = .returned (.bool (same1 s u L L2)) ∧ Fresh W w') := fun W o cp o' cp' k1 k2 => by
    have := rsame3_at s u _ _ o o' cp cp' W k1 k2 (by rw [hen1]; exact hl) hlo1 hlo2
    rw [hen1, hen2, same_up] at this
    exact this
  have HZ18 : Hid (∀ W o cp o' cp', AtP M W o → AtP M W o' → Calls Tryz.prog 29 #[.agg #[.int .u64 t, .slice o M.length cp], .agg #[.int .u64 t, .slice o' M.length cp']] W fun e w' => e = .returned (.bool true) ∧ Fresh W w') := fun W o cp o' cp' k1 k2 => by
    have := rsame2_at t t M M o o' cp cp' W k1 k2 (by omega) (fun p hp => Nat.le_trans (hf3 p hp).2 (by decide))
    rw [same2_self] at this
    exact this
  have HDN : Hid (∀ W o cp, AtL (M.map up2) W o → Calls Tryz.prog 35 #[.agg #[.int .u64 t, .slice o M.length cp]] W fun e w' => ∃ o cp, e = .returned (.tuple #[.agg #[.int .u64 t, .slice o M.length cp], .bool true]) ∧ AtP M w' o ∧ Fresh W w') := fun W o cp hp => by
    have := down_c t o _ cp W hp (by rw [hen3]; exact hl3) hlo3
    rw [all_may (fun p hp => (hf3 p hp).num), hen3] at this
    refine this.mono (fun e w' hd => ?_)
    rcases hd with ⟨_, o, cp, e1, e2, e3⟩ | ⟨e1, _⟩
    · rw [map_dn_up2 (fun p hp => (hf3 p hp).num)] at e2
      rw [hen3] at e1
      exact ⟨o, cp, e1, e2, e3⟩
    · cases e1
  have hz1 : chk1 L = 0 → chk3 ((L.map up1).map up2) = 0 := fun h0 => chk2_up (fun p hp => (mapS1 hf p hp).1.r0) (chk1_up h0)
  have hz3 : chk2 M = 0 → chk3 (M.map up2) = 0 := fun h0 => chk2_up (fun p hp => (hf3 p hp).1.r0) h0
  have HR3 := Lib.hid h3
  have hxx : (same1 s u L L2 != same1 s u L L2) = false := by cases same1 s u L L2 <;> rfl
  have HK1 := Lib.hid (fun (hs : smA 0 L = true) (W : World) (o : Option Addr) (cp : Nat) (k : R1 L W o) => rcheck_any s o L cp W k (small1_fit hf hs) (by omega))
  have HK3 := Lib.hid (fun (hs : smB 0 M = true) (W : World) (o : Option Addr) (cp : Nat) (k : AtP M W o) => rcheck2_at t o M cp W k (small2_fit hf3 hs) (by omega))
  generalize same1 s u L L2 = X at *
  clear hT h h2 h3 hf hf2 hf3 hlo1 hlo2 hlo3 hen1 hen2 hen3 hbig
  dsimp only [st1, st2] at *
  cases hs1 : smA 0 L with
  | false =>
    rw [hs1] at HS1
    clear hs1
    clear HA1 HA2 HB1 HB2 HT3 HO1 HO2 HO3 HC1 HC3 HOM HZ17 HZ19 HZ18 HDN HK1 HK3
    go_enter Tryz.func8, Tryz.ntmps8
    go_wp2_with (fail)
    obtain ⟨hx1, hx2, hx3, hx4⟩ := HX.out
    generalize ((w.alloc (.cells #[.int .u32 s, .slice a L.length c] 63)).alloc (.cells #[.int .u32 u, .slice a2 L2.length c2] 63)).alloc (.cells #[.int .u64 t, .slice a3 M.length c3] 66) = W0 at *
    clear HX
    have HF := Lib.hid hx4
    have HKP : Hid (∀ W, Fresh W0 W → (W.cell? ⟨w.heap.size, 0, none⟩ = some (.int .u32 s) ∧ W.cell? ⟨w.heap.size, 1, none⟩ = some (.slice a L.length c)) ∧ (W.cell? ⟨w.heap.size + 1, 0, none⟩ = some (.int .u32 u) ∧ W.cell? ⟨w.heap.size + 1, 1, none⟩ = some (.slice a2 L2.length c2)) ∧ W.cell? ⟨w.heap.size + 1 + 1, 0, none⟩ = some (.int .u64 t) ∧ W.cell? ⟨w.heap.size + 1 + 1, 1, none⟩ = some (.slice a3 M.length c3)) := fun W f =>
      ⟨⟨cell_of_at (f.at hx1) (i := 0) rfl, cell_of_at (f.at hx1) (i := 1) rfl⟩, ⟨cell_of_at (f.at hx2) (i := 0) rfl, cell_of_at (f.at hx2) (i := 1) rfl⟩, cell_of_at (f.at hx3) (i := 0) rfl, cell_of_at (f.at hx3) (i := 1) rfl⟩
    obtain ⟨⟨b0, b1⟩, ⟨b2, b3⟩, b4, b5⟩ := HKP.out W0 (.refl _)
    have HG : Hid (Fresh W0 W0) := .refl _
    clear hx1 hx2 hx3 hx4
    refine (HS1.out _ (HF.out.trans HG.out)).mono ?_
    rintro e w1 ⟨rfl, hf⟩
    have HG := Lib.hid (HG.out.trans hf)
    clear hf b0 b1 b2 b3 b4 b5
    obtain ⟨⟨b0, b1⟩, ⟨b2, b3⟩, b4, b5⟩ := HKP.out _ HG.out
    go_wp2_with (fail)
    refine (HAW.out _ (HF.out.trans HG.out)).mono ?_
    rintro e w1 ⟨rfl, hf⟩
    have HG := Lib.hid (HG.out.trans hf)
    clear hf b0 b1 b2 b3 b4 b5
    obtain ⟨⟨b0, b1⟩, ⟨b2, b3⟩, b4, b5⟩ := HKP.out _ HG.out
    go_wp2
    go_ret
    exact ⟨rfl, HF.out.trans HG.out⟩
  | true =>
  have HK1 := Lib.hid (HK1.out hs1)
  rw [hs1] at HS1
  clear hs1
  cases hs2 : smA 0 L2 with
  | false =>
    rw [hs2] at HS2
    clear hs2
    clear HA1 HA2 HB1 HB2 HT3 HO1 HO2 HO3 HC1 HC3 HOM HZ17 HZ19 HZ18 HDN HK1 HK3
    go_enter Tryz.func8, Tryz.ntmps8
    go_wp2_with (fail)
    obtain ⟨hx1, hx2, hx3, hx4⟩ := HX.out
    generalize ((w.alloc (.cells #[.int .u32 s, .slice a L.length c] 63)).alloc (.cells #[.int .u32 u, .slice a2 L2.length c2] 63)).alloc (.cells #[.int .u64 t, .slice a3 M.length c3] 66) = W0 at *
    clear HX
    have HF := Lib.hid hx4
    have HKP : Hid (∀ W, Fresh W0 W → (W.cell? ⟨w.heap.size, 0, none⟩ = some (.int .u32 s) ∧ W.cell? ⟨w.heap.size, 1, none⟩ = some (.slice a L.length c)) ∧ (W.cell? ⟨w.heap.size + 1, 0, none⟩ = some (.int .u32 u) ∧ W.cell? ⟨w.heap.size + 1, 1, none⟩ = some (.slice a2 L2.length c2)) ∧ W.cell? ⟨w.heap.size + 1 + 1, 0, none⟩ = some (.int .u64 t) ∧ W.cell? ⟨w.heap.size + 1 + 1, 1, none⟩ = some (.slice a3 M.length c3)) := fun W f =>
      ⟨⟨cell_of_at (f.at hx1) (i := 0) rfl, cell_of_at (f.at hx1) (i := 1) rfl⟩, ⟨cell_of_at (f.at hx2) (i := 0) rfl, cell_of_at (f.at hx2) (i := 1) rfl⟩, cell_of_at (f.at hx3) (i := 0) rfl, cell_of_at (f.at hx3) (i := 1) rfl⟩
    obtain ⟨⟨b0, b1⟩, ⟨b2, b3⟩, b4, b5⟩ := HKP.out W0 (.refl _)
    have HG : Hid (Fresh W0 W0) := .refl _
    clear hx1 hx2 hx3 hx4
    refine (HS1.out _ (HF.out.trans HG.out)).mono ?_
    rintro e w1 ⟨rfl, hf⟩
    have HG := Lib.hid (HG.out.trans hf)
    clear hf b0 b1 b2 b3 b4 b5
    obtain ⟨⟨b0, b1⟩, ⟨b2, b3⟩, b4, b5⟩ := HKP.out _ HG.out
    go_wp2_with (fail)
    refine (HS2.out _ (HF.out.trans HG.out)).mono ?_
    rintro e w1 ⟨rfl, hf⟩
    have HG := Lib.hid (HG.out.trans hf)
    clear hf b0 b1 b2 b3 b4 b5
    obtain ⟨⟨b0, b1⟩, ⟨b2, b3⟩, b4, b5⟩ := HKP.out _ HG.out
    go_wp2_with (fail)
    refine (HAW.out _ (HF.out.trans HG.out)).mono ?_
    rintro e w1 ⟨rfl, hf⟩
    have HG := Lib.hid (HG.out.trans hf)
    clear hf b0 b1 b2 b3 b4 b5
    obtain ⟨⟨b0, b1⟩, ⟨b2, b3⟩, b4, b5⟩ := HKP.out _ HG.out
    go_wp2
    go_ret
    exact ⟨rfl, HF.out.trans HG.out⟩
  | true =>
  rw [hs2] at HS2
  clear hs2
  cases hs3 : smB 0 M with
  | false =>
    rw [hs3] at HS3
    clear hs3
    clear HA1 HA2 HB1 HB2 HT3 HO1 HO2 HO3 HC1 HC3 HOM HZ17 HZ19 HZ18 HDN HK1 HK3
    go_enter Tryz.func8, Tryz.ntmps8
    go_wp2_with (fail)
    obtain ⟨hx1, hx2, hx3, hx4⟩ := HX.out
    generalize ((w.alloc (.cells #[.int .u32 s, .slice a L.length c] 63)).alloc (.cells #[.int .u32 u, .slice a2 L2.length c2] 63)).alloc (.cells #[.int .u64 t, .slice a3 M.length c3] 66) = W0 at *
    clear HX
    have HF := Lib.hid hx4
    have HKP : Hid (∀ W, Fresh W0 W → (W.cell? ⟨w.heap.size, 0, none⟩ = some (.int .u32 s) ∧ W.cell? ⟨w.heap.size, 1, none⟩ = some (.slice a L.length c)) ∧ (W.cell? ⟨w.heap.size + 1, 0, none⟩ = some (.int .u32 u) ∧ W.cell? ⟨w.heap.size + 1, 1, none⟩ = some (.slice a2 L2.length c2)) ∧ W.cell? ⟨w.heap.size + 1 + 1, 0, none⟩ = some (.int .u64 t) ∧ W.cell? ⟨w.heap.size + 1 + 1, 1, none⟩ = some (.slice a3 M.length c3)) := fun W f =>
      ⟨⟨cell_of_at (f.at hx1) (i := 0) rfl, cell_of_at (f.at hx1) (i := 1) rfl⟩, ⟨cell_of_at (f.at hx2) (i := 0) rfl, cell_of_at (f.at hx2) (i := 1) rfl⟩, cell_of_at (f.at hx3) (i := 0) rfl, cell_of_at (f.at hx3) (i := 1) rfl⟩
    obtain ⟨⟨b0, b1⟩, ⟨b2, b3⟩, b4, b5⟩ := HKP.out W0 (.refl _)
    have HG : Hid (Fresh W0 W0) := .refl _
    clear hx1 hx2 hx3 hx4
    refine (HS1.out _ (HF.out.trans HG.out)).mono ?_
    rintro e w1 ⟨rfl, hf⟩
    have HG := Lib.hid (HG.out.trans hf)
    clear hf b0 b1 b2 b3 b4 b5
    obtain ⟨⟨b0, b1⟩, ⟨b2, b3⟩, b4, b5⟩ := HKP.out _ HG.out
    go_wp2_with (fail)
    refine (HS2.out _ (HF.out.trans HG.out)).mono ?_
    rintro e w1 ⟨rfl, hf⟩
    have HG := Lib.hid (HG.out.trans hf)
    clear hf b0 b1 b2 b3 b4 b5
    obtain ⟨⟨b0, b1⟩, ⟨b2, b3⟩, b4, b5⟩ := HKP.out _ HG.out
    go_wp2_with (fail)
    refine (HS3.out _ (HF.out.trans HG.out)).mono ?_
    rintro e w1 ⟨rfl, hf⟩
    have HG := Lib.hid (HG.out.trans hf)
    clear hf b0 b1 b2 b3 b4 b5
    obtain ⟨⟨b0, b1⟩, ⟨b2, b3⟩, b4, b5⟩ := HKP.out _ HG.out
    go_wp2_with (fail)
    refine (HAW.out _ (HF.out.trans HG.out)).mono ?_
    rintro e w1 ⟨rfl, hf⟩
    have HG := Lib.hid (HG.out.trans hf)
    clear hf b0 b1 b2 b3 b4 b5
    obtain ⟨⟨b0, b1⟩, ⟨b2, b3⟩, b4, b5⟩ := HKP.out _ HG.out
    go_wp2
    go_ret
    exact ⟨rfl, HF.out.trans HG.out⟩
  | true =>
  have HK3 := Lib.hid (HK3.out hs3)
  rw [hs3] at HS3
  clear hs3
  by_cases hc1 : chk1 L = 0
  case pos =>
    rw [hc1] at HK1
    rw [hz1 hc1] at HC1
    clear hc1 hz1
    by_cases hc3 : chk2 M = 0
    case pos =>
      rw [hc3] at HK3
      rw [hz3 hc3] at HC3
      clear hc3 hz3
      go_enter Tryz.func8, Tryz.ntmps8
      go_wp2_with (fail)
      obtain ⟨hx1, hx2, hx3, hx4⟩ := HX.out
      generalize ((w.alloc (.cells #[.int .u32 s, .slice a L.length c] 63)).alloc (.cells #[.int .u32 u, .slice a2 L2.length c2] 63)).alloc (.cells #[.int .u64 t, .slice a3 M.length c3] 66) = W0 at *
      clear HX
      have HF := Lib.hid hx4
      have HKP : Hid (∀ W, Fresh W0 W → (W.cell? ⟨w.heap.size, 0, none⟩ = some (.int .u32 s) ∧ W.cell? ⟨w.heap.size, 1, none⟩ = some (.slice a L.length c)) ∧ (W.cell? ⟨w.heap.size + 1, 0, none⟩ = some (.int .u32 u) ∧ W.cell? ⟨w.heap.size + 1, 1, none⟩ = some (.slice a2 L2.length c2)) ∧ W.cell? ⟨w.heap.size + 1 + 1, 0, none⟩ = some (.int .u64 t) ∧ W.cell? ⟨w.heap.size + 1 + 1, 1, none⟩ = some (.slice a3 M.length c3)) := fun W f =>
        ⟨⟨cell_of_at (f.at hx1) (i := 0) rfl, cell_of_at (f.at hx1) (i := 1) rfl⟩, ⟨cell_of_at (f.at hx2) (i := 0) rfl, cell_of_at (f.at hx2) (i := 1) rfl⟩, cell_of_at (f.at hx3) (i := 0) rfl, cell_of_at (f.at hx3) (i := 1) rfl⟩
      obtain ⟨⟨b0, b1⟩, ⟨b2, b3⟩, b4, b5⟩ := HKP.out W0 (.refl _)
      have HG : Hid (Fresh W0 W0) := .refl _
      clear hx1 hx2 hx3 hx4
      refine (HS1.out _ (HF.out.trans HG.out)).mono ?_
      rintro e w1 ⟨rfl, hf⟩
      have HG := Lib.hid (HG.out.trans hf)
      clear hf b0 b1 b2 b3 b4 b5
      obtain ⟨⟨b0, b1⟩, ⟨b2, b3⟩, b4, b5⟩ := HKP.out _ HG.out
      go_wp2_with (fail)
      refine (HS2.out _ (HF.out.trans HG.out)).mono ?_
      rintro e w1 ⟨rfl, hf⟩
      have HG := Lib.hid (HG.out.trans hf)
      clear hf b0 b1 b2 b3 b4 b5
      obtain ⟨⟨b0, b1⟩, ⟨b2, b3⟩, b4, b5⟩ := HKP.out _ HG.out
      go_wp2_with (fail)
      refine (HS3.out _ (HF.out.trans HG.out)).mono ?_
      rintro e w1 ⟨rfl, hf⟩
      have HG := Lib.hid (HG.out.trans hf)
      clear hf b0 b1 b2 b3 b4 b5
      obtain ⟨⟨b0, b1⟩, ⟨b2, b3⟩, b4, b5⟩ := HKP.out _ HG.out
      go_wp2_with (fail)
      refine (HA1.out _ (HF.out.trans HG.out)).mono ?_
      rintro e w1 ⟨o1, p1, rfl, hr, hf⟩
      have HR := Lib.hid hr
      clear hr
      have HG := Lib.hid (HG.out.trans hf)
      clear hf b0 b1 b2 b3 b4 b5
      obtain ⟨⟨b0, b1⟩, ⟨b2, b3⟩, b4, b5⟩ := HKP.out _ HG.out
      go_wp2_with (fail)
      refine (HK1.out _ o1 p1 HR.out).mono ?_
      rintro e w1 ⟨rfl, hf⟩
      have HG := Lib.hid (HG.out.trans hf)
      clear hf b0 b1 b2 b3 b4 b5
      obtain ⟨⟨b0, b1⟩, ⟨b2, b3⟩, b4, b5⟩ := HKP.out _ HG.out
      go_wp2_with (fail)
      refine (HB1.out _ (HF.out.trans HG.out)).mono ?_
      rintro e w1 ⟨o2, p2, rfl, hr, hf⟩
      have HR := Lib.hid hr
      clear hr
      have HG := Lib.hid (HG.out.trans hf)
      clear hf b0 b1 b2 b3 b4 b5
      obtain ⟨⟨b0, b1⟩, ⟨b2, b3⟩, b4, b5⟩ := HKP.out _ HG.out
      go_wp2_with (fail)
      refine (HO1.out _ o2 p2 HR.out).mono ?_
      rintro e w1 ⟨o2, p2, rfl, hr, hf⟩
      have HR := Lib.hid hr
      clear hr
      have HG := Lib.hid (HG.out.trans hf)
      clear hf b0 b1 b2 b3 b4 b5
      obtain ⟨⟨b0, b1⟩, ⟨b2, b3⟩, b4, b5⟩ := HKP.out _ HG.out
      go_wp2_with (fail)
      refine (HC1.out _ o2 p2 HR.out).mono ?_
      rintro e w1 ⟨rfl, hf⟩
      have HG := Lib.hid (HG.out.trans hf)
      clear hf b0 b1 b2 b3 b4 b5
      obtain ⟨⟨b0, b1⟩, ⟨b2, b3⟩, b4, b5⟩ := HKP.out _ HG.out
      go_wp2_with (fail)
      refine (HOM.out _ a3 c3 (HR3.out.move (HF.out.trans HG.out))).mono ?_
      rintro e w1 ⟨o3, p3, rfl, hr, hf⟩
      have HR := Lib.hid hr
      clear hr
      have HG := Lib.hid (HG.out.trans hf)
      clear hf b0 b1 b2 b3 b4 b5
      obtain ⟨⟨b0, b1⟩, ⟨b2, b3⟩, b4, b5⟩ := HKP.out _ HG.out
      go_wp2_with (fail)
      refine (HK3.out _ o3 p3 HR.out).mono ?_
      rintro e w1 ⟨rfl, hf⟩
      have HG := Lib.hid (HG.out.trans hf)
      clear hf b0 b1 b2 b3 b4 b5
      obtain ⟨⟨b0, b1⟩, ⟨b2, b3⟩, b4, b5⟩ := HKP.out _ HG.out
      go_wp2_with (fail)
      refine (HT3.out _ (HF.out.trans HG.out)).mono ?_
      rintro e w1 ⟨o4, p4, rfl, hr, hf⟩
      have HR := Lib.hid hr
      clear hr
      have HG := Lib.hid (HG.out.trans hf)
      clear hf b0 b1 b2 b3 b4 b5
      obtain ⟨⟨b0, b1⟩, ⟨b2, b3⟩, b4, b5⟩ := HKP.out _ HG.out
      go_wp2_with (fail)
      refine (HO3.out _ o4 p4 HR.out).mono ?_
      rintro e w1 ⟨o4, p4, rfl, hr, hf⟩
      have HR := Lib.hid hr
      clear hr
      have HG := Lib.hid (HG.out.trans hf)
      clear hf b0 b1 b2 b3 b4 b5
      obtain ⟨⟨b0, b1⟩, ⟨b2, b3⟩, b4, b5⟩ := HKP.out _ HG.out
      go_wp2_with (fail)
      refine (HC3.out _ o4 p4 HR.out).mono ?_
      rintro e w1 ⟨rfl, hf⟩
      have HG := Lib.hid (HG.out.trans hf)
      clear hf b0 b1 b2 b3 b4 b5
      obtain ⟨⟨b0, b1⟩, ⟨b2, b3⟩, b4, b5⟩ := HKP.out _ HG.out
      go_wp2_with (fail)
      all_goals try (exfalso; omega)
      clear b0 b1 b2 b3 b4 b5
      generalize hw1 : w1 = W1 at *
      clear hw1
      have HD : Hid (Fresh W1 W1.drew) := (Fresh.refl W1).drew
      obtain ⟨⟨b0, b1⟩, ⟨b2, b3⟩, b4, b5⟩ := HKP.out _ HG.out
      go_region_held3 (fun w' => (w'.cell? ⟨w.heap.size, 0, none⟩ = some (.int .u32 s) ∧ w'.cell? ⟨w.heap.size, 1, none⟩ = some (.slice a L.length c) ∧ w'.cell? ⟨w.heap.size + 1, 0, none⟩ = some (.int .u32 u) ∧ w'.cell? ⟨w.heap.size + 1, 1, none⟩ = some (.slice a2 L2.length c2))) (go_keep)
        (first
          | (go_at_call 27; (with_reducible refine (HA1.out _ (HF.out.trans (HG.out.trans HD.out))).mono ?_); rintro e W2 ⟨o5, p5, rfl, hr, hf⟩; have HR5 := Lib.hid hr; clear hr; have HD := Lib.hid (HD.out.trans hf); obtain ⟨⟨b0, b1⟩, ⟨b2, b3⟩, b4, b5⟩ := HKP.out _ (HG.out.trans HD.out); clear hf)
          | (go_at_call 27; (with_reducible refine (HA2.out _ (HF.out.trans (HG.out.trans HD.out))).mono ?_); rintro e W2 ⟨o6, p6, rfl, hr, hf⟩; have HR5 := Lib.hid (HR5.out.move hf); have HR6 := Lib.hid hr; clear hr; have HD := Lib.hid (HD.out.trans hf); obtain ⟨⟨b0, b1⟩, ⟨b2, b3⟩, b4, b5⟩ := HKP.out _ (HG.out.trans HD.out); clear hf)
          | (go_at_call 39; (with_reducible refine (HZ17.out _ o5 p5 o6 p6 HR5.out HR6.out).mono ?_); rintro e W2 ⟨rfl, hf⟩; have HD := Lib.hid (HD.out.trans hf); obtain ⟨⟨b0, b1⟩, ⟨b2, b3⟩, b4, b5⟩ := HKP.out _ (HG.out.trans HD.out); clear hf)
          | (go_at_call 34; (with_reducible refine (HB1.out _ (HF.out.trans (HG.out.trans HD.out))).mono ?_); rintro e W2 ⟨o7, p7, rfl, hr, hf⟩; have HR7 := Lib.hid hr; clear hr; have HD := Lib.hid (HD.out.trans hf); obtain ⟨⟨b0, b1⟩, ⟨b2, b3⟩, b4, b5⟩ := HKP.out _ (HG.out.trans HD.out); clear hf)
          | (go_at_call 11; (with_reducible refine (HO1.out _ o7 p7 HR7.out).mono ?_); rintro e W2 ⟨o8, p8, rfl, hr, hf⟩; have HR8 := Lib.hid hr; clear hr; have HD := Lib.hid (HD.out.trans hf); obtain ⟨⟨b0, b1⟩, ⟨b2, b3⟩, b4, b5⟩ := HKP.out _ (HG.out.trans HD.out); clear hf)
          | (go_at_call 34; (with_reducible refine (HB2.out _ (HF.out.trans (HG.out.trans HD.out))).mono ?_); rintro e W2 ⟨o9, p9, rfl, hr, hf⟩; have HR8 := Lib.hid (HR8.out.move hf); have HR9 := Lib.hid hr; clear hr; have HD := Lib.hid (HD.out.trans hf); obtain ⟨⟨b0, b1⟩, ⟨b2, b3⟩, b4, b5⟩ := HKP.out _ (HG.out.trans HD.out); clear hf)
          | (go_at_call 11; (with_reducible refine (HO2.out _ o9 p9 HR9.out).mono ?_); rintro e W2 ⟨o10, p10, rfl, hr, hf⟩; have HR8 := Lib.hid (HR8.out.move hf); have HR10 := Lib.hid hr; clear hr; have HD := Lib.hid (HD.out.trans hf); obtain ⟨⟨b0, b1⟩, ⟨b2, b3⟩, b4, b5⟩ := HKP.out _ (HG.out.trans HD.out); clear hf)
          | (go_at_call 21; (with_reducible refine (HZ19.out _ o8 p8 o10 p10 HR8.out HR10.out).mono ?_); rintro e W2 ⟨rfl, hf⟩; have HD := Lib.hid (HD.out.trans hf); obtain ⟨⟨b0, b1⟩, ⟨b2, b3⟩, b4, b5⟩ := HKP.out _ (HG.out.trans HD.out); clear hf))
      have HG := Lib.hid (HG.out.trans HD.out)
      clear HD
      go_wp2_with (fail)
      refine (HT3.out _ (HF.out.trans HG.out)).mono ?_
      rintro e w1 ⟨o11, p11, rfl, hr, hf⟩
      have HR := Lib.hid hr
      clear hr
      have HG := Lib.hid (HG.out.trans hf)
      clear hf b0 b1 b2 b3 b4 b5
      obtain ⟨⟨b0, b1⟩, ⟨b2, b3⟩, b4, b5⟩ := HKP.out _ HG.out
      go_wp2_with (fail)
      refine (HDN.out _ o11 p11 HR.out).mono ?_
      rintro e w2 ⟨o12, p12, rfl, hr, hf⟩
      have HB := Lib.hid (at_new w2 (.cells #[.int .u64 t, .slice o12 M.length p12] 66))
      have HR12 := Lib.hid (hr.move ((Fresh.refl w2).alloc (.cells #[.int .u64 t, .slice o12 M.length p12] 66)))
      have HG := Lib.hid ((HG.out.trans hf).alloc (.cells #[.int .u64 t, .slice o12 M.length p12] 66))
      clear hf hr b0 b1 b2 b3 b4 b5
      go_wp2_with (fail)
      generalize w2.alloc (.cells #[.int .u64 t, .slice o12 M.length p12] 66) = V2 at *
      obtain ⟨z, hz⟩ : ∃ z, z = w2.heap.size := ⟨_, rfl⟩
      rw [← hz] at HB ⊢
      clear hz
      have HQP : Hid (∀ W, Fresh V2 W → W.cell? ⟨z, 0, none⟩ = some (.int .u64 t) ∧ W.cell? ⟨z, 1, none⟩ = some (.slice o12 M.length p12) ∧ W.cell? ⟨w.heap.size + 1 + 1, 0, none⟩ = some (.int .u64 t) ∧ W.cell? ⟨w.heap.size + 1 + 1, 1, none⟩ = some (.slice a3 M.length c3)) := fun W f =>
        ⟨cell_of_at (f.at HB.out) (i := 0) rfl, cell_of_at (f.at HB.out) (i := 1) rfl, (HKP.out _ (HG.out.trans f)).2.2⟩
      obtain ⟨k0, k1, k2, k3⟩ := HQP.out V2 (.refl _)
      have HD : Hid (Fresh V2 V2.drew) := (Fresh.refl V2).drew
      go_region_held3 (fun w' => (w'.cell? ⟨z, 0, none⟩ = some (.int .u64 t) ∧ w'.cell? ⟨z, 1, none⟩ = some (.slice o12 M.length p12) ∧ w'.cell? ⟨w.heap.size + 1 + 1, 0, none⟩ = some (.int .u64 t) ∧ w'.cell? ⟨w.heap.size + 1 + 1, 1, none⟩ = some (.slice a3 M.length c3))) (go_keep)
        (first
          | (go_at_call 26; (with_reducible refine (HAW.out _ (HF.out.trans (HG.out.trans HD.out))).mono ?_); rintro e W2 ⟨rfl, hf⟩; have HD := Lib.hid (HD.out.trans hf); obtain ⟨k0, k1, k2, k3⟩ := HQP.out _ HD.out; clear hf)
          | (go_at_call 28; (with_reducible refine (HOM.out _ o12 p12 (HR12.out.move HD.out)).mono ?_); rintro e W2 ⟨o13, p13, rfl, hr, hf⟩; have HR13 := Lib.hid hr; have HD := Lib.hid (HD.out.trans hf); obtain ⟨k0, k1, k2, k3⟩ := HQP.out _ HD.out; clear hf hr)
          | (go_at_call 28; (with_reducible refine (HOM.out _ a3 c3 (HR3.out.move (HF.out.trans (HG.out.trans HD.out)))).mono ?_); rintro e W2 ⟨o14, p14, rfl, hr, hf⟩; have HR13 := Lib.hid (HR13.out.move hf); have HR14 := Lib.hid hr; have HD := Lib.hid (HD.out.trans hf); obtain ⟨k0, k1, k2, k3⟩ := HQP.out _ HD.out; clear hf hr)
          | (go_at_call 29; (with_reducible refine (HZ18.out _ o13 p13 o14 p14 HR13.out HR14.out).mono ?_); rintro e W2 ⟨rfl, hf⟩; have HD := Lib.hid (HD.out.trans hf); obtain ⟨k0, k1, k2, k3⟩ := HQP.out _ HD.out; clear hf))
      all_goals go_wp2
      all_goals go_ret
      all_goals exact ⟨rfl, HF.out.trans (HG.out.trans HD.out)⟩
    case neg =>
      have e3 : (chk2 M == 0) = false := by rw [beq_eq_false_iff_ne]; exact hc3
      generalize chk2 M = K3 at *
      clear hc3 hz3 HC3
      go_enter Tryz.func8, Tryz.ntmps8
      go_wp2_with (fail)
      obtain ⟨hx1, hx2, hx3, hx4⟩ := HX.out
      generalize ((w.alloc (.cells #[.int .u32 s, .slice a L.length c] 63)).alloc (.cells #[.int .u32 u, .slice a2 L2.length c2] 63)).alloc (.cells #[.int .u64 t, .slice a3 M.length c3] 66) = W0 at *
      clear HX
      have HF := Lib.hid hx4
      have HKP : Hid (∀ W, Fresh W0 W → (W.cell? ⟨w.heap.size, 0, none⟩ = some (.int .u32 s) ∧ W.cell? ⟨w.heap.size, 1, none⟩ = some (.slice a L.length c)) ∧ (W.cell? ⟨w.heap.size + 1, 0, none⟩ = some (.int .u32 u) ∧ W.cell? ⟨w.heap.size + 1, 1, none⟩ = some (.slice a2 L2.length c2)) ∧ W.cell? ⟨w.heap.size + 1 + 1, 0, none⟩ = some (.int .u64 t) ∧ W.cell? ⟨w.heap.size + 1 + 1, 1, none⟩ = some (.slice a3 M.length c3)) := fun W f =>
        ⟨⟨cell_of_at (f.at hx1) (i := 0) rfl, cell_of_at (f.at hx1) (i := 1) rfl⟩, ⟨cell_of_at (f.at hx2) (i := 0) rfl, cell_of_at (f.at hx2) (i := 1) rfl⟩, cell_of_at (f.at hx3) (i := 0) rfl, cell_of_at (f.at hx3) (i := 1) rfl⟩
      obtain ⟨⟨b0, b1⟩, ⟨b2, b3⟩, b4, b5⟩ := HKP.out W0 (.refl _)
      have HG : Hid (Fresh W0 W0) := .refl _
      clear hx1 hx2 hx3 hx4
      refine (HS1.out _ (HF.out.trans HG.out)).mono ?_
      rintro e w1 ⟨rfl, hf⟩
      have HG := Lib.hid (HG.out.trans hf)
      clear hf b0 b1 b2 b3 b4 b5
      obtain ⟨⟨b0, b1⟩, ⟨b2, b3⟩, b4, b5⟩ := HKP.out _ HG.out
      go_wp2_with (fail)
      refine (HS2.out _ (HF.out.trans HG.out)).mono ?_
      rintro e w1 ⟨rfl, hf⟩
      have HG := Lib.hid (HG.out.trans hf)
      clear hf b0 b1 b2 b3 b4 b5
      obtain ⟨⟨b0, b1⟩, ⟨b2, b3⟩, b4, b5⟩ := HKP.out _ HG.out
      go_wp2_with (fail)
      refine (HS3.out _ (HF.out.trans HG.out)).mono ?_
      rintro e w1 ⟨rfl, hf⟩
      have HG := Lib.hid (HG.out.trans hf)
      clear hf b0 b1 b2 b3 b4 b5
      obtain ⟨⟨b0, b1⟩, ⟨b2, b3⟩, b4, b5⟩ := HKP.out _ HG.out
      go_wp2_with (fail)
      refine (HA1.out _ (HF.out.trans HG.out)).mono ?_
      rintro e w1 ⟨o1, p1, rfl, hr, hf⟩
      have HR := Lib.hid hr
      clear hr
      have HG := Lib.hid (HG.out.trans hf)
      clear hf b0 b1 b2 b3 b4 b5
      obtain ⟨⟨b0, b1⟩, ⟨b2, b3⟩, b4, b5⟩ := HKP.out _ HG.out
      go_wp2_with (fail)
      refine (HK1.out _ o1 p1 HR.out).mono ?_
      rintro e w1 ⟨rfl, hf⟩
      have HG := Lib.hid (HG.out.trans hf)
      clear hf b0 b1 b2 b3 b4 b5
      obtain ⟨⟨b0, b1⟩, ⟨b2, b3⟩, b4, b5⟩ := HKP.out _ HG.out
      go_wp2_with (fail)
      refine (HB1.out _ (HF.out.trans HG.out)).mono ?_
      rintro e w1 ⟨o2, p2, rfl, hr, hf⟩
      have HR := Lib.hid hr
      clear hr
      have HG := Lib.hid (HG.out.trans hf)
      clear hf b0 b1 b2 b3 b4 b5
      obtain ⟨⟨b0, b1⟩, ⟨b2, b3⟩, b4, b5⟩ := HKP.out _ HG.out
      go_wp2_with (fail)
      refine (HO1.out _ o2 p2 HR.out).mono ?_
      rintro e w1 ⟨o2, p2, rfl, hr, hf⟩
      have HR := Lib.hid hr
      clear hr
      have HG := Lib.hid (HG.out.trans hf)
      clear hf b0 b1 b2 b3 b4 b5
      obtain ⟨⟨b0, b1⟩, ⟨b2, b3⟩, b4, b5⟩ := HKP.out _ HG.out
      go_wp2_with (fail)
      refine (HC1.out _ o2 p2 HR.out).mono ?_
      rintro e w1 ⟨rfl, hf⟩
      have HG := Lib.hid (HG.out.trans hf)
      clear hf b0 b1 b2 b3 b4 b5
      obtain ⟨⟨b0, b1⟩, ⟨b2, b3⟩, b4, b5⟩ := HKP.out _ HG.out
      go_wp2_with (fail)
      refine (HOM.out _ a3 c3 (HR3.out.move (HF.out.trans HG.out))).mono ?_
      rintro e w1 ⟨o3, p3, rfl, hr, hf⟩
      have HR := Lib.hid hr
      clear hr
      have HG := Lib.hid (HG.out.trans hf)
      clear hf b0 b1 b2 b3 b4 b5
      obtain ⟨⟨b0, b1⟩, ⟨b2, b3⟩, b4, b5⟩ := HKP.out _ HG.out
      go_wp2_with (fail)
      refine (HK3.out _ o3 p3 HR.out).mono ?_
      rintro e w1 ⟨rfl, hf⟩
      have HG := Lib.hid (HG.out.trans hf)
      clear hf b0 b1 b2 b3 b4 b5
      obtain ⟨⟨b0, b1⟩, ⟨b2, b3⟩, b4, b5⟩ := HKP.out _ HG.out
      go_wp2_with (fail)
      all_goals try (exfalso; omega)
      clear b0 b1 b2 b3 b4 b5
      generalize hw1 : w1 = W1 at *
      clear hw1
      have HD : Hid (Fresh W1 W1.drew) := (Fresh.refl W1).drew
      obtain ⟨⟨b0, b1⟩, ⟨b2, b3⟩, b4, b5⟩ := HKP.out _ HG.out
      go_region_held3 (fun w' => (w'.cell? ⟨w.heap.size, 0, none⟩ = some (.int .u32 s) ∧ w'.cell? ⟨w.heap.size, 1, none⟩ = some (.slice a L.length c) ∧ w'.cell? ⟨w.heap.size + 1, 0, none⟩ = some (.int .u32 u) ∧ w'.cell? ⟨w.heap.size + 1, 1, none⟩ = some (.slice a2 L2.length c2))) (go_keep)
        (first
          | (go_at_call 27; (with_reducible refine (HA1.out _ (HF.out.trans (HG.out.trans HD.out))).mono ?_); rintro e W2 ⟨o5, p5, rfl, hr, hf⟩; have HR5 := Lib.hid hr; clear hr; have HD := Lib.hid (HD.out.trans hf); obtain ⟨⟨b0, b1⟩, ⟨b2, b3⟩, b4, b5⟩ := HKP.out _ (HG.out.trans HD.out); clear hf)
          | (go_at_call 27; (with_reducible refine (HA2.out _ (HF.out.trans (HG.out.trans HD.out))).mono ?_); rintro e W2 ⟨o6, p6, rfl, hr, hf⟩; have HR5 := Lib.hid (HR5.out.move hf); have HR6 := Lib.hid hr; clear hr; have HD := Lib.hid (HD.out.trans hf); obtain ⟨⟨b0, b1⟩, ⟨b2, b3⟩, b4, b5⟩ := HKP.out _ (HG.out.trans HD.out); clear hf)
          | (go_at_call 39; (with_reducible refine (HZ17.out _ o5 p5 o6 p6 HR5.out HR6.out).mono ?_); rintro e W2 ⟨rfl, hf⟩; have HD := Lib.hid (HD.out.trans hf); obtain ⟨⟨b0, b1⟩, ⟨b2, b3⟩, b4, b5⟩ := HKP.out _ (HG.out.trans HD.out); clear hf)
          | (go_at_call 34; (with_reducible refine (HB1.out _ (HF.out.trans (HG.out.trans HD.out))).mono ?_); rintro e W2 ⟨o7, p7, rfl, hr, hf⟩; have HR7 := Lib.hid hr; clear hr; have HD := Lib.hid (HD.out.trans hf); obtain ⟨⟨b0, b1⟩, ⟨b2, b3⟩, b4, b5⟩ := HKP.out _ (HG.out.trans HD.out); clear hf)
          | (go_at_call 11; (with_reducible refine (HO1.out _ o7 p7 HR7.out).mono ?_); rintro e W2 ⟨o8, p8, rfl, hr, hf⟩; have HR8 := Lib.hid hr; clear hr; have HD := Lib.hid (HD.out.trans hf); obtain ⟨⟨b0, b1⟩, ⟨b2, b3⟩, b4, b5⟩ := HKP.out _ (HG.out.trans HD.out); clear hf)
          | (go_at_call 34; (with_reducible refine (HB2.out _ (HF.out.trans (HG.out.trans HD.out))).mono ?_); rintro e W2 ⟨o9, p9, rfl, hr, hf⟩; have HR8 := Lib.hid (HR8.out.move hf); have HR9 := Lib.hid hr; clear hr; have HD := Lib.hid (HD.out.trans hf); obtain ⟨⟨b0, b1⟩, ⟨b2, b3⟩, b4, b5⟩ := HKP.out _ (HG.out.trans HD.out); clear hf)
          | (go_at_call 11; (with_reducible refine (HO2.out _ o9 p9 HR9.out).mono ?_); rintro e W2 ⟨o10, p10, rfl, hr, hf⟩; have HR8 := Lib.hid (HR8.out.move hf); have HR10 := Lib.hid hr; clear hr; have HD := Lib.hid (HD.out.trans hf); obtain ⟨⟨b0, b1⟩, ⟨b2, b3⟩, b4, b5⟩ := HKP.out _ (HG.out.trans HD.out); clear hf)
          | (go_at_call 21; (with_reducible refine (HZ19.out _ o8 p8 o10 p10 HR8.out HR10.out).mono ?_); rintro e W2 ⟨rfl, hf⟩; have HD := Lib.hid (HD.out.trans hf); obtain ⟨⟨b0, b1⟩, ⟨b2, b3⟩, b4, b5⟩ := HKP.out _ (HG.out.trans HD.out); clear hf))
      have HG := Lib.hid (HG.out.trans HD.out)
      clear HD
      go_wp2_with (fail)
      refine (HT3.out _ (HF.out.trans HG.out)).mono ?_
      rintro e w1 ⟨o11, p11, rfl, hr, hf⟩
      have HR := Lib.hid hr
      clear hr
      have HG := Lib.hid (HG.out.trans hf)
      clear hf b0 b1 b2 b3 b4 b5
      obtain ⟨⟨b0, b1⟩, ⟨b2, b3⟩, b4, b5⟩ := HKP.out _ HG.out
      go_wp2_with (fail)
      refine (HDN.out _ o11 p11 HR.out).mono ?_
      rintro e w2 ⟨o12, p12, rfl, hr, hf⟩
      have HB := Lib.hid (at_new w2 (.cells #[.int .u64 t, .slice o12 M.length p12] 66))
      have HR12 := Lib.hid (hr.move ((Fresh.refl w2).alloc (.cells #[.int .u64 t, .slice o12 M.length p12] 66)))
      have HG := Lib.hid ((HG.out.trans hf).alloc (.cells #[.int .u64 t, .slice o12 M.length p12] 66))
      clear hf hr b0 b1 b2 b3 b4 b5
      go_wp2_with (fail)
      generalize w2.alloc (.cells #[.int .u64 t, .slice o12 M.length p12] 66) = V2 at *
      obtain ⟨z, hz⟩ : ∃ z, z = w2.heap.size := ⟨_, rfl⟩
      rw [← hz] at HB ⊢
      clear hz
      have HQP : Hid (∀ W, Fresh V2 W → W.cell? ⟨z, 0, none⟩ = some (.int .u64 t) ∧ W.cell? ⟨z, 1, none⟩ = some (.slice o12 M.length p12) ∧ W.cell? ⟨w.heap.size + 1 + 1, 0, none⟩ = some (.int .u64 t) ∧ W.cell? ⟨w.heap.size + 1 + 1, 1, none⟩ = some (.slice a3 M.length c3)) := fun W f =>
        ⟨cell_of_at (f.at HB.out) (i := 0) rfl, cell_of_at (f.at HB.out) (i := 1) rfl, (HKP.out _ (HG.out.trans f)).2.2⟩
      obtain ⟨k0, k1, k2, k3⟩ := HQP.out V2 (.refl _)
      have HD : Hid (Fresh V2 V2.drew) := (Fresh.refl V2).drew
      go_region_held3 (fun w' => (w'.cell? ⟨z, 0, none⟩ = some (.int .u64 t) ∧ w'.cell? ⟨z, 1, none⟩ = some (.slice o12 M.length p12) ∧ w'.cell? ⟨w.heap.size + 1 + 1, 0, none⟩ = some (.int .u64 t) ∧ w'.cell? ⟨w.heap.size + 1 + 1, 1, none⟩ = some (.slice a3 M.length c3))) (go_keep)
        (first
          | (go_at_call 26; (with_reducible refine (HAW.out _ (HF.out.trans (HG.out.trans HD.out))).mono ?_); rintro e W2 ⟨rfl, hf⟩; have HD := Lib.hid (HD.out.trans hf); obtain ⟨k0, k1, k2, k3⟩ := HQP.out _ HD.out; clear hf)
          | (go_at_call 28; (with_reducible refine (HOM.out _ o12 p12 (HR12.out.move HD.out)).mono ?_); rintro e W2 ⟨o13, p13, rfl, hr, hf⟩; have HR13 := Lib.hid hr; have HD := Lib.hid (HD.out.trans hf); obtain ⟨k0, k1, k2, k3⟩ := HQP.out _ HD.out; clear hf hr)
          | (go_at_call 28; (with_reducible refine (HOM.out _ a3 c3 (HR3.out.move (HF.out.trans (HG.out.trans HD.out)))).mono ?_); rintro e W2 ⟨o14, p14, rfl, hr, hf⟩; have HR13 := Lib.hid (HR13.out.move hf); have HR14 := Lib.hid hr; have HD := Lib.hid (HD.out.trans hf); obtain ⟨k0, k1, k2, k3⟩ := HQP.out _ HD.out; clear hf hr)
          | (go_at_call 29; (with_reducible refine (HZ18.out _ o13 p13 o14 p14 HR13.out HR14.out).mono ?_); rintro e W2 ⟨rfl, hf⟩; have HD := Lib.hid (HD.out.trans hf); obtain ⟨k0, k1, k2, k3⟩ := HQP.out _ HD.out; clear hf))
      all_goals go_wp2
      all_goals go_ret
      all_goals exact ⟨rfl, HF.out.trans (HG.out.trans HD.out)⟩
  case neg =>
    have e1 : (chk1 L == 0) = false := by rw [beq_eq_false_iff_ne]; exact hc1
    generalize chk1 L = K1 at *
    clear hc1 hz1 HC1
    by_cases hc3 : chk2 M = 0
    case pos =>
      rw [hc3] at HK3
      rw [hz3 hc3] at HC3
      clear hc3 hz3
      go_enter Tryz.func8, Tryz.ntmps8
      go_wp2_with (fail)
      obtain ⟨hx1, hx2, hx3, hx4⟩ := HX.out
      generalize ((w.alloc (.cells #[.int .u32 s, .slice a L.length c] 63)).alloc (.cells #[.int .u32 u, .slice a2 L2.length c2] 63)).alloc (.cells #[.int .u64 t, .slice a3 M.length c3] 66) = W0 at *
      clear HX
      have HF := Lib.hid hx4
      have HKP : Hid (∀ W, Fresh W0 W → (W.cell? ⟨w.heap.size, 0, none⟩ = some (.int .u32 s) ∧ W.cell? ⟨w.heap.size, 1, none⟩ = some (.slice a L.length c)) ∧ (W.cell? ⟨w.heap.size + 1, 0, none⟩ = some (.int .u32 u) ∧ W.cell? ⟨w.heap.size + 1, 1, none⟩ = some (.slice a2 L2.length c2)) ∧ W.cell? ⟨w.heap.size + 1 + 1, 0, none⟩ = some (.int .u64 t) ∧ W.cell? ⟨w.heap.size + 1 + 1, 1, none⟩ = some (.slice a3 M.length c3)) := fun W f =>
        ⟨⟨cell_of_at (f.at hx1) (i := 0) rfl, cell_of_at (f.at hx1) (i := 1) rfl⟩, ⟨cell_of_at (f.at hx2) (i := 0) rfl, cell_of_at (f.at hx2) (i := 1) rfl⟩, cell_of_at (f.at hx3) (i := 0) rfl, cell_of_at (f.at hx3) (i := 1) rfl⟩
      obtain ⟨⟨b0, b1⟩, ⟨b2, b3⟩, b4, b5⟩ := HKP.out W0 (.refl _)
      have HG : Hid (Fresh W0 W0) := .refl _
      clear hx1 hx2 hx3 hx4
      refine (HS1.out _ (HF.out.trans HG.out)).mono ?_
      rintro e w1 ⟨rfl, hf⟩
      have HG := Lib.hid (HG.out.trans hf)
      clear hf b0 b1 b2 b3 b4 b5
      obtain ⟨⟨b0, b1⟩, ⟨b2, b3⟩, b4, b5⟩ := HKP.out _ HG.out
      go_wp2_with (fail)
      refine (HS2.out _ (HF.out.trans HG.out)).mono ?_
      rintro e w1 ⟨rfl, hf⟩
      have HG := Lib.hid (HG.out.trans hf)
      clear hf b0 b1 b2 b3 b4 b5
      obtain ⟨⟨b0, b1⟩, ⟨b2, b3⟩, b4, b5⟩ := HKP.out _ HG.out
      go_wp2_with (fail)
      refine (HS3.out _ (HF.out.trans HG.out)).mono ?_
      rintro e w1 ⟨rfl, hf⟩
      have HG := Lib.hid (HG.out.trans hf)
      clear hf b0 b1 b2 b3 b4 b5
      obtain ⟨⟨b0, b1⟩, ⟨b2, b3⟩, b4, b5⟩ := HKP.out _ HG.out
      go_wp2_with (fail)
      refine (HA1.out _ (HF.out.trans HG.out)).mono ?_
      rintro e w1 ⟨o1, p1, rfl, hr, hf⟩
      have HR := Lib.hid hr
      clear hr
      have HG := Lib.hid (HG.out.trans hf)
      clear hf b0 b1 b2 b3 b4 b5
      obtain ⟨⟨b0, b1⟩, ⟨b2, b3⟩, b4, b5⟩ := HKP.out _ HG.out
      go_wp2_with (fail)
      refine (HK1.out _ o1 p1 HR.out).mono ?_
      rintro e w1 ⟨rfl, hf⟩
      have HG := Lib.hid (HG.out.trans hf)
      clear hf b0 b1 b2 b3 b4 b5
      obtain ⟨⟨b0, b1⟩, ⟨b2, b3⟩, b4, b5⟩ := HKP.out _ HG.out
      go_wp2_with (fail)
      refine (HOM.out _ a3 c3 (HR3.out.move (HF.out.trans HG.out))).mono ?_
      rintro e w1 ⟨o3, p3, rfl, hr, hf⟩
      have HR := Lib.hid hr
      clear hr
      have HG := Lib.hid (HG.out.trans hf)
      clear hf b0 b1 b2 b3 b4 b5
      obtain ⟨⟨b0, b1⟩, ⟨b2, b3⟩, b4, b5⟩ := HKP.out _ HG.out
      go_wp2_with (fail)
      refine (HK3.out _ o3 p3 HR.out).mono ?_
      rintro e w1 ⟨rfl, hf⟩
      have HG := Lib.hid (HG.out.trans hf)
      clear hf b0 b1 b2 b3 b4 b5
      obtain ⟨⟨b0, b1⟩, ⟨b2, b3⟩, b4, b5⟩ := HKP.out _ HG.out
      go_wp2_with (fail)
      refine (HT3.out _ (HF.out.trans HG.out)).mono ?_
      rintro e w1 ⟨o4, p4, rfl, hr, hf⟩
      have HR := Lib.hid hr
      clear hr
      have HG := Lib.hid (HG.out.trans hf)
      clear hf b0 b1 b2 b3 b4 b5
      obtain ⟨⟨b0, b1⟩, ⟨b2, b3⟩, b4, b5⟩ := HKP.out _ HG.out
      go_wp2_with (fail)
      refine (HO3.out _ o4 p4 HR.out).mono ?_
      rintro e w1 ⟨o4, p4, rfl, hr, hf⟩
      have HR := Lib.hid hr
      clear hr
      have HG := Lib.hid (HG.out.trans hf)
      clear hf b0 b1 b2 b3 b4 b5
      obtain ⟨⟨b0, b1⟩, ⟨b2, b3⟩, b4, b5⟩ := HKP.out _ HG.out
      go_wp2_with (fail)
      refine (HC3.out _ o4 p4 HR.out).mono ?_
      rintro e w1 ⟨rfl, hf⟩
      have HG := Lib.hid (HG.out.trans hf)
      clear hf b0 b1 b2 b3 b4 b5
      obtain ⟨⟨b0, b1⟩, ⟨b2, b3⟩, b4, b5⟩ := HKP.out _ HG.out
      go_wp2_with (fail)
      all_goals try (exfalso; omega)
      clear b0 b1 b2 b3 b4 b5
      generalize hw1 : w1 = W1 at *
      clear hw1
      have HD : Hid (Fresh W1 W1.drew) := (Fresh.refl W1).drew
      obtain ⟨⟨b0, b1⟩, ⟨b2, b3⟩, b4, b5⟩ := HKP.out _ HG.out
      go_region_held3 (fun w' => (w'.cell? ⟨w.heap.size, 0, none⟩ = some (.int .u32 s) ∧ w'.cell? ⟨w.heap.size, 1, none⟩ = some (.slice a L.length c) ∧ w'.cell? ⟨w.heap.size + 1, 0, none⟩ = some (.int .u32 u) ∧ w'.cell? ⟨w.heap.size + 1, 1, none⟩ = some (.slice a2 L2.length c2))) (go_keep)
        (first
          | (go_at_call 27; (with_reducible refine (HA1.out _ (HF.out.trans (HG.out.trans HD.out))).mono ?_); rintro e W2 ⟨o5, p5, rfl, hr, hf⟩; have HR5 := Lib.hid hr; clear hr; have HD := Lib.hid (HD.out.trans hf); obtain ⟨⟨b0, b1⟩, ⟨b2, b3⟩, b4, b5⟩ := HKP.out _ (HG.out.trans HD.out); clear hf)
          | (go_at_call 27; (with_reducible refine (HA2.out _ (HF.out.trans (HG.out.trans HD.out))).mono ?_); rintro e W2 ⟨o6, p6, rfl, hr, hf⟩; have HR5 := Lib.hid (HR5.out.move hf); have HR6 := Lib.hid hr; clear hr; have HD := Lib.hid (HD.out.trans hf); obtain ⟨⟨b0, b1⟩, ⟨b2, b3⟩, b4, b5⟩ := HKP.out _ (HG.out.trans HD.out); clear hf)
          | (go_at_call 39; (with_reducible refine (HZ17.out _ o5 p5 o6 p6 HR5.out HR6.out).mono ?_); rintro e W2 ⟨rfl, hf⟩; have HD := Lib.hid (HD.out.trans hf); obtain ⟨⟨b0, b1⟩, ⟨b2, b3⟩, b4, b5⟩ := HKP.out _ (HG.out.trans HD.out); clear hf)
          | (go_at_call 34; (with_reducible refine (HB1.out _ (HF.out.trans (HG.out.trans HD.out))).mono ?_); rintro e W2 ⟨o7, p7, rfl, hr, hf⟩; have HR7 := Lib.hid hr; clear hr; have HD := Lib.hid (HD.out.trans hf); obtain ⟨⟨b0, b1⟩, ⟨b2, b3⟩, b4, b5⟩ := HKP.out _ (HG.out.trans HD.out); clear hf)
          | (go_at_call 11; (with_reducible refine (HO1.out _ o7 p7 HR7.out).mono ?_); rintro e W2 ⟨o8, p8, rfl, hr, hf⟩; have HR8 := Lib.hid hr; clear hr; have HD := Lib.hid (HD.out.trans hf); obtain ⟨⟨b0, b1⟩, ⟨b2, b3⟩, b4, b5⟩ := HKP.out _ (HG.out.trans HD.out); clear hf)
          | (go_at_call 34; (with_reducible refine (HB2.out _ (HF.out.trans (HG.out.trans HD.out))).mono ?_); rintro e W2 ⟨o9, p9, rfl, hr, hf⟩; have HR8 := Lib.hid (HR8.out.move hf); have HR9 := Lib.hid hr; clear hr; have HD := Lib.hid (HD.out.trans hf); obtain ⟨⟨b0, b1⟩, ⟨b2, b3⟩, b4, b5⟩ := HKP.out _ (HG.out.trans HD.out); clear hf)
          | (go_at_call 11; (with_reducible refine (HO2.out _ o9 p9 HR9.out).mono ?_); rintro e W2 ⟨o10, p10, rfl, hr, hf⟩; have HR8 := Lib.hid (HR8.out.move hf); have HR10 := Lib.hid hr; clear hr; have HD := Lib.hid (HD.out.trans hf); obtain ⟨⟨b0, b1⟩, ⟨b2, b3⟩, b4, b5⟩ := HKP.out _ (HG.out.trans HD.out); clear hf)
          | (go_at_call 21; (with_reducible refine (HZ19.out _ o8 p8 o10 p10 HR8.out HR10.out).mono ?_); rintro e W2 ⟨rfl, hf⟩; have HD := Lib.hid (HD.out.trans hf); obtain ⟨⟨b0, b1⟩, ⟨b2, b3⟩, b4, b5⟩ := HKP.out _ (HG.out.trans HD.out); clear hf))
      have HG := Lib.hid (HG.out.trans HD.out)
      clear HD
      go_wp2_with (fail)
      refine (HT3.out _ (HF.out.trans HG.out)).mono ?_
      rintro e w1 ⟨o11, p11, rfl, hr, hf⟩
      have HR := Lib.hid hr
      clear hr
      have HG := Lib.hid (HG.out.trans hf)
      clear hf b0 b1 b2 b3 b4 b5
      obtain ⟨⟨b0, b1⟩, ⟨b2, b3⟩, b4, b5⟩ := HKP.out _ HG.out
      go_wp2_with (fail)
      refine (HDN.out _ o11 p11 HR.out).mono ?_
      rintro e w2 ⟨o12, p12, rfl, hr, hf⟩
      have HB := Lib.hid (at_new w2 (.cells #[.int .u64 t, .slice o12 M.length p12] 66))
      have HR12 := Lib.hid (hr.move ((Fresh.refl w2).alloc (.cells #[.int .u64 t, .slice o12 M.length p12] 66)))
      have HG := Lib.hid ((HG.out.trans hf).alloc (.cells #[.int .u64 t, .slice o12 M.length p12] 66))
      clear hf hr b0 b1 b2 b3 b4 b5
      go_wp2_with (fail)
      generalize w2.alloc (.cells #[.int .u64 t, .slice o12 M.length p12] 66) = V2 at *
      obtain ⟨z, hz⟩ : ∃ z, z = w2.heap.size := ⟨_, rfl⟩
      rw [← hz] at HB ⊢
      clear hz
      have HQP : Hid (∀ W, Fresh V2 W → W.cell? ⟨z, 0, none⟩ = some (.int .u64 t) ∧ W.cell? ⟨z, 1, none⟩ = some (.slice o12 M.length p12) ∧ W.cell? ⟨w.heap.size + 1 + 1, 0, none⟩ = some (.int .u64 t) ∧ W.cell? ⟨w.heap.size + 1 + 1, 1, none⟩ = some (.slice a3 M.length c3)) := fun W f =>
        ⟨cell_of_at (f.at HB.out) (i := 0) rfl, cell_of_at (f.at HB.out) (i := 1) rfl, (HKP.out _ (HG.out.trans f)).2.2⟩
      obtain ⟨k0, k1, k2, k3⟩ := HQP.out V2 (.refl _)
      have HD : Hid (Fresh V2 V2.drew) := (Fresh.refl V2).drew
      go_region_held3 (fun w' => (w'.cell? ⟨z, 0, none⟩ = some (.int .u64 t) ∧ w'.cell? ⟨z, 1, none⟩ = some (.slice o12 M.length p12) ∧ w'.cell? ⟨w.heap.size + 1 + 1, 0, none⟩ = some (.int .u64 t) ∧ w'.cell? ⟨w.heap.size + 1 + 1, 1, none⟩ = some (.slice a3 M.length c3))) (go_keep)
        (first
          | (go_at_call 26; (with_reducible refine (HAW.out _ (HF.out.trans (HG.out.trans HD.out))).mono ?_); rintro e W2 ⟨rfl, hf⟩; have HD := Lib.hid (HD.out.trans hf); obtain ⟨k0, k1, k2, k3⟩ := HQP.out _ HD.out; clear hf)
          | (go_at_call 28; (with_reducible refine (HOM.out _ o12 p12 (HR12.out.move HD.out)).mono ?_); rintro e W2 ⟨o13, p13, rfl, hr, hf⟩; have HR13 := Lib.hid hr; have HD := Lib.hid (HD.out.trans hf); obtain ⟨k0, k1, k2, k3⟩ := HQP.out _ HD.out; clear hf hr)
          | (go_at_call 28; (with_reducible refine (HOM.out _ a3 c3 (HR3.out.move (HF.out.trans (HG.out.trans HD.out)))).mono ?_); rintro e W2 ⟨o14, p14, rfl, hr, hf⟩; have HR13 := Lib.hid (HR13.out.move hf); have HR14 := Lib.hid hr; have HD := Lib.hid (HD.out.trans hf); obtain ⟨k0, k1, k2, k3⟩ := HQP.out _ HD.out; clear hf hr)
          | (go_at_call 29; (with_reducible refine (HZ18.out _ o13 p13 o14 p14 HR13.out HR14.out).mono ?_); rintro e W2 ⟨rfl, hf⟩; have HD := Lib.hid (HD.out.trans hf); obtain ⟨k0, k1, k2, k3⟩ := HQP.out _ HD.out; clear hf))
      all_goals go_wp2
      all_goals go_ret
      all_goals exact ⟨rfl, HF.out.trans (HG.out.trans HD.out)⟩
    case neg =>
      have e3 : (chk2 M == 0) = false := by rw [beq_eq_false_iff_ne]; exact hc3
      generalize chk2 M = K3 at *
      clear hc3 hz3 HC3
      go_enter Tryz.func8, Tryz.ntmps8
      go_wp2_with (fail)
      obtain ⟨hx1, hx2, hx3, hx4⟩ := HX.out
      generalize ((w.alloc (.cells #[.int .u32 s, .slice a L.length c] 63)).alloc (.cells #[.int .u32 u, .slice a2 L2.length c2] 63)).alloc (.cells #[.int .u64 t, .slice a3 M.length c3] 66) = W0 at *
      clear HX
      have HF := Lib.hid hx4
      have HKP : Hid (∀ W, Fresh W0 W → (W.cell? ⟨w.heap.size, 0, none⟩ = some (.int .u32 s) ∧ W.cell? ⟨w.heap.size, 1, none⟩ = some (.slice a L.length c)) ∧ (W.cell? ⟨w.heap.size + 1, 0, none⟩ = some (.int .u32 u) ∧ W.cell? ⟨w.heap.size + 1, 1, none⟩ = some (.slice a2 L2.length c2)) ∧ W.cell? ⟨w.heap.size + 1 + 1, 0, none⟩ = some (.int .u64 t) ∧ W.cell? ⟨w.heap.size + 1 + 1, 1, none⟩ = some (.slice a3 M.length c3)) := fun W f =>
        ⟨⟨cell_of_at (f.at hx1) (i := 0) rfl, cell_of_at (f.at hx1) (i := 1) rfl⟩, ⟨cell_of_at (f.at hx2) (i := 0) rfl, cell_of_at (f.at hx2) (i := 1) rfl⟩, cell_of_at (f.at hx3) (i := 0) rfl, cell_of_at (f.at hx3) (i := 1) rfl⟩
      obtain ⟨⟨b0, b1⟩, ⟨b2, b3⟩, b4, b5⟩ := HKP.out W0 (.refl _)
      have HG : Hid (Fresh W0 W0) := .refl _
      clear hx1 hx2 hx3 hx4
      refine (HS1.out _ (HF.out.trans HG.out)).mono ?_
      rintro e w1 ⟨rfl, hf⟩
      have HG := Lib.hid (HG.out.trans hf)
      clear hf b0 b1 b2 b3 b4 b5
      obtain ⟨⟨b0, b1⟩, ⟨b2, b3⟩, b4, b5⟩ := HKP.out _ HG.out
      go_wp2_with (fail)
      refine (HS2.out _ (HF.out.trans HG.out)).mono ?_
      rintro e w1 ⟨rfl, hf⟩
      have HG := Lib.hid (HG.out.trans hf)
      clear hf b0 b1 b2 b3 b4 b5
      obtain ⟨⟨b0, b1⟩, ⟨b2, b3⟩, b4, b5⟩ := HKP.out _ HG.out
      go_wp2_with (fail)
      refine (HS3.out _ (HF.out.trans HG.out)).mono ?_
      rintro e w1 ⟨rfl, hf⟩
      have HG := Lib.hid (HG.out.trans hf)
      clear hf b0 b1 b2 b3 b4 b5
      obtain ⟨⟨b0, b1⟩, ⟨b2, b3⟩, b4, b5⟩ := HKP.out _ HG.out
      go_wp2_with (fail)
      refine (HA1.out _ (HF.out.trans HG.out)).mono ?_
      rintro e w1 ⟨o1, p1, rfl, hr, hf⟩
      have HR := Lib.hid hr
      clear hr
      have HG := Lib.hid (HG.out.trans hf)
      clear hf b0 b1 b2 b3 b4 b5
      obtain ⟨⟨b0, b1⟩, ⟨b2, b3⟩, b4, b5⟩ := HKP.out _ HG.out
      go_wp2_with (fail)
      refine (HK1.out _ o1 p1 HR.out).mono ?_
      rintro e w1 ⟨rfl, hf⟩
      have HG := Lib.hid (HG.out.trans hf)
      clear hf b0 b1 b2 b3 b4 b5
      obtain ⟨⟨b0, b1⟩, ⟨b2, b3⟩, b4, b5⟩ := HKP.out _ HG.out
      go_wp2_with (fail)
      refine (HOM.out _ a3 c3 (HR3.out.move (HF.out.trans HG.out))).mono ?_
      rintro e w1 ⟨o3, p3, rfl, hr, hf⟩
      have HR := Lib.hid hr
      clear hr
      have HG := Lib.hid (HG.out.trans hf)
      clear hf b0 b1 b2 b3 b4 b5
      obtain ⟨⟨b0, b1⟩, ⟨b2, b3⟩, b4, b5⟩ := HKP.out _ HG.out
      go_wp2_with (fail)
      refine (HK3.out _ o3 p3 HR.out).mono ?_
      rintro e w1 ⟨rfl, hf⟩
      have HG := Lib.hid (HG.out.trans hf)
      clear hf b0 b1 b2 b3 b4 b5
      obtain ⟨⟨b0, b1⟩, ⟨b2, b3⟩, b4, b5⟩ := HKP.out _ HG.out
      go_wp2_with (fail)
      all_goals try (exfalso; omega)
      clear b0 b1 b2 b3 b4 b5
      generalize hw1 : w1 = W1 at *
      clear hw1
      have HD : Hid (Fresh W1 W1.drew) := (Fresh.refl W1).drew
      obtain ⟨⟨b0, b1⟩, ⟨b2, b3⟩, b4, b5⟩ := HKP.out _ HG.out
      go_region_held3 (fun w' => (w'.cell? ⟨w.heap.size, 0, none⟩ = some (.int .u32 s) ∧ w'.cell? ⟨w.heap.size, 1, none⟩ = some (.slice a L.length c) ∧ w'.cell? ⟨w.heap.size + 1, 0, none⟩ = some (.int .u32 u) ∧ w'.cell? ⟨w.heap.size + 1, 1, none⟩ = some (.slice a2 L2.length c2))) (go_keep)
        (first
          | (go_at_call 27; (with_reducible refine (HA1.out _ (HF.out.trans (HG.out.trans HD.out))).mono ?_); rintro e W2 ⟨o5, p5, rfl, hr, hf⟩; have HR5 := Lib.hid hr; clear hr; have HD := Lib.hid (HD.out.trans hf); obtain ⟨⟨b0, b1⟩, ⟨b2, b3⟩, b4, b5⟩ := HKP.out _ (HG.out.trans HD.out); clear hf)
          | (go_at_call 27; (with_reducible refine (HA2.out _ (HF.out.trans (HG.out.trans HD.out))).mono ?_); rintro e W2 ⟨o6, p6, rfl, hr, hf⟩; have HR5 := Lib.hid (HR5.out.move hf); have HR6 := Lib.hid hr; clear hr; have HD := Lib.hid (HD.out.trans hf); obtain ⟨⟨b0, b1⟩, ⟨b2, b3⟩, b4, b5⟩ := HKP.out _ (HG.out.trans HD.out); clear hf)
          | (go_at_call 39; (with_reducible refine (HZ17.out _ o5 p5 o6 p6 HR5.out HR6.out).mono ?_); rintro e W2 ⟨rfl, hf⟩; have HD := Lib.hid (HD.out.trans hf); obtain ⟨⟨b0, b1⟩, ⟨b2, b3⟩, b4, b5⟩ := HKP.out _ (HG.out.trans HD.out); clear hf)
          | (go_at_call 34; (with_reducible refine (HB1.out _ (HF.out.trans (HG.out.trans HD.out))).mono ?_); rintro e W2 ⟨o7, p7, rfl, hr, hf⟩; have HR7 := Lib.hid hr; clear hr; have HD := Lib.hid (HD.out.trans hf); obtain ⟨⟨b0, b1⟩, ⟨b2, b3⟩, b4, b5⟩ := HKP.out _ (HG.out.trans HD.out); clear hf)
          | (go_at_call 11; (with_reducible refine (HO1.out _ o7 p7 HR7.out).mono ?_); rintro e W2 ⟨o8, p8, rfl, hr, hf⟩; have HR8 := Lib.hid hr; clear hr; have HD := Lib.hid (HD.out.trans hf); obtain ⟨⟨b0, b1⟩, ⟨b2, b3⟩, b4, b5⟩ := HKP.out _ (HG.out.trans HD.out); clear hf)
          | (go_at_call 34; (with_reducible refine (HB2.out _ (HF.out.trans (HG.out.trans HD.out))).mono ?_); rintro e W2 ⟨o9, p9, rfl, hr, hf⟩; have HR8 := Lib.hid (HR8.out.move hf); have HR9 := Lib.hid hr; clear hr; have HD := Lib.hid (HD.out.trans hf); obtain ⟨⟨b0, b1⟩, ⟨b2, b3⟩, b4, b5⟩ := HKP.out _ (HG.out.trans HD.out); clear hf)
          | (go_at_call 11; (with_reducible refine (HO2.out _ o9 p9 HR9.out).mono ?_); rintro e W2 ⟨o10, p10, rfl, hr, hf⟩; have HR8 := Lib.hid (HR8.out.move hf); have HR10 := Lib.hid hr; clear hr; have HD := Lib.hid (HD.out.trans hf); obtain ⟨⟨b0, b1⟩, ⟨b2, b3⟩, b4, b5⟩ := HKP.out _ (HG.out.trans HD.out); clear hf)
          | (go_at_call 21; (with_reducible refine (HZ19.out _ o8 p8 o10 p10 HR8.out HR10.out).mono ?_); rintro e W2 ⟨rfl, hf⟩; have HD := Lib.hid (HD.out.trans hf); obtain ⟨⟨b0, b1⟩, ⟨b2, b3⟩, b4, b5⟩ := HKP.out _ (HG.out.trans HD.out); clear hf))
      have HG := Lib.hid (HG.out.trans HD.out)
      clear HD
      go_wp2_with (fail)
      refine (HT3.out _ (HF.out.trans HG.out)).mono ?_
      rintro e w1 ⟨o11, p11, rfl, hr, hf⟩
      have HR := Lib.hid hr
      clear hr
      have HG := Lib.hid (HG.out.trans hf)
      clear hf b0 b1 b2 b3 b4 b5
      obtain ⟨⟨b0, b1⟩, ⟨b2, b3⟩, b4, b5⟩ := HKP.out _ HG.out
      go_wp2_with (fail)
      refine (HDN.out _ o11 p11 HR.out).mono ?_
      rintro e w2 ⟨o12, p12, rfl, hr, hf⟩
      have HB := Lib.hid (at_new w2 (.cells #[.int .u64 t, .slice o12 M.length p12] 66))
      have HR12 := Lib.hid (hr.move ((Fresh.refl w2).alloc (.cells #[.int .u64 t, .slice o12 M.length p12] 66)))
      have HG := Lib.hid ((HG.out.trans hf).alloc (.cells #[.int .u64 t, .slice o12 M.length p12] 66))
      clear hf hr b0 b1 b2 b3 b4 b5
      go_wp2_with (fail)
      generalize w2.alloc (.cells #[.int .u64 t, .slice o12 M.length p12] 66) = V2 at *
      obtain ⟨z, hz⟩ : ∃ z, z = w2.heap.size := ⟨_, rfl⟩
      rw [← hz] at HB ⊢
      clear hz
      have HQP : Hid (∀ W, Fresh V2 W → W.cell? ⟨z, 0, none⟩ = some (.int .u64 t) ∧ W.cell? ⟨z, 1, none⟩ = some (.slice o12 M.length p12) ∧ W.cell? ⟨w.heap.size + 1 + 1, 0, none⟩ = some (.int .u64 t) ∧ W.cell? ⟨w.heap.size + 1 + 1, 1, none⟩ = some (.slice a3 M.length c3)) := fun W f =>
        ⟨cell_of_at (f.at HB.out) (i := 0) rfl, cell_of_at (f.at HB.out) (i := 1) rfl, (HKP.out _ (HG.out.trans f)).2.2⟩
      obtain ⟨k0, k1, k2, k3⟩ := HQP.out V2 (.refl _)
      have HD : Hid (Fresh V2 V2.drew) := (Fresh.refl V2).drew
      go_region_held3 (fun w' => (w'.cell? ⟨z, 0, none⟩ = some (.int .u64 t) ∧ w'.cell? ⟨z, 1, none⟩ = some (.slice o12 M.length p12) ∧ w'.cell? ⟨w.heap.size + 1 + 1, 0, none⟩ = some (.int .u64 t) ∧ w'.cell? ⟨w.heap.size + 1 + 1, 1, none⟩ = some (.slice a3 M.length c3))) (go_keep)
        (first
          | (go_at_call 26; (with_reducible refine (HAW.out _ (HF.out.trans (HG.out.trans HD.out))).mono ?_); rintro e W2 ⟨rfl, hf⟩; have HD := Lib.hid (HD.out.trans hf); obtain ⟨k0, k1, k2, k3⟩ := HQP.out _ HD.out; clear hf)
          | (go_at_call 28; (with_reducible refine (HOM.out _ o12 p12 (HR12.out.move HD.out)).mono ?_); rintro e W2 ⟨o13, p13, rfl, hr, hf⟩; have HR13 := Lib.hid hr; have HD := Lib.hid (HD.out.trans hf); obtain ⟨k0, k1, k2, k3⟩ := HQP.out _ HD.out; clear hf hr)
          | (go_at_call 28; (with_reducible refine (HOM.out _ a3 c3 (HR3.out.move (HF.out.trans (HG.out.trans HD.out)))).mono ?_); rintro e W2 ⟨o14, p14, rfl, hr, hf⟩; have HR13 := Lib.hid (HR13.out.move hf); have HR14 := Lib.hid hr; have HD := Lib.hid (HD.out.trans hf); obtain ⟨k0, k1, k2, k3⟩ := HQP.out _ HD.out; clear hf hr)
          | (go_at_call 29; (with_reducible refine (HZ18.out _ o13 p13 o14 p14 HR13.out HR14.out).mono ?_); rintro e W2 ⟨rfl, hf⟩; have HD := Lib.hid (HD.out.trans hf); obtain ⟨k0, k1, k2, k3⟩ := HQP.out _ HD.out; clear hf))
      all_goals go_wp2
      all_goals go_ret
      all_goals exact ⟨rfl, HF.out.trans (HG.out.trans HD.out)⟩
end Go.Proofs.YtldncgelghcjeaaGreatDoor.K
