/-
  Package value: Get, and the document's.
-/
import Derived.Test.YtonakfkiidhebaaDoorOf
import Derived.Test.YtonakfkiidhebaaDoorDeeper
namespace Go.Proofs.YtonakfkiidhebaaDoor
open Go.ChangeShapes Go.WideShapes Go.ChangeAt Go.RowKit
attribute [local go_sem ↓] Go.wp_at_zero Go.wp_at_succ
def V0 : V := .mk 0 false 0 ⟨#[]⟩ [] []
def M0 : M := .mk 0 false 0 ⟨#[]⟩ none 0 [] none 0 []
theorem m0_at (w : World) : M0.At w := .mk (by decide) (.inl ⟨rfl, rfl⟩) (.inl ⟨rfl, rfl⟩) (by simp) (by simp) (fun _ h => by cases h) (fun _ h => by cases h) (fun _ h => by cases h)
theorem m0_plain : M0.plain = V0 := by simp [M0, V0, M.plain, plainL, plainK]
/-- What Get gives. -/
def V.gets (v : V) (key : ByteArray) : V × Bool := if v.kind = 5 then (match v.keys.find? (fun p => decide (p.1 = key)) with | some p => (p.2, true) | none => (V0, false)) else (V0, false)
theorem gets_no {k : Int} {f : Bool} {n : Int} {s : ByteArray} {l : List V} {ks : List (ByteArray × V)} {key : ByteArray} (h : k ≠ 5) : (V.mk k f n s l ks).gets key = (V0, false) := by
  unfold V.gets; rw [if_neg (by simpa [V.kind] using h)]
theorem find_map (ks : List (ByteArray × M)) (key : ByteArray) : (ks.map fun p => (p.1, p.2.plain)).find? (fun p => decide (p.1 = key)) = (ks.find? (fun p => decide (p.1 = key))).map fun p => (p.1, p.2.plain) := by
  rw [List.find?_map]; rfl
theorem gets_none {f : Bool} {n : Int} {s : ByteArray} {l : List V} {ks : List (ByteArray × M)} {key : ByteArray} (h : ks.find? (fun p => decide (p.1 = key)) = none) : (V.mk 5 f n s l (ks.map fun p => (p.1, p.2.plain))).gets key = (V0, false) := by
  unfold V.gets; simp only [V.kind, V.keys, if_true, find_map, h]; rfl
theorem gets_some {f : Bool} {n : Int} {s : ByteArray} {l : List V} {ks : List (ByteArray × M)} {key : ByteArray} {p : ByteArray × M} (h : ks.find? (fun p => decide (p.1 = key)) = some p) : (V.mk 5 f n s l (ks.map fun p => (p.1, p.2.plain))).gets key = (p.2.plain, true) := by
  unfold V.gets; simp only [V.kind, V.keys, if_true, find_map, h]; rfl
theorem find_at {ks : List (ByteArray × M)} {key : ByteArray} {j : Nat} (hj : j < ks.length) (h0 : (ks.take j).find? (fun p => decide (p.1 = key)) = none) (h : ks[j].1 = key) : ks.find? (fun p => decide (p.1 = key)) = some ks[j] := by
  have e : ks = ks.take j ++ ks[j] :: ks.drop (j + 1) := by rw [List.getElem_cons_drop, List.take_append_drop]
  have h2 : (ks.take j ++ ks[j] :: ks.drop (j + 1)).find? (fun p => decide (p.1 = key)) = some ks[j] := by
    rw [List.find?_append, h0, List.find?_cons]
    simp [h]
  rw [← e] at h2; exact h2
theorem find_on {ks : List (ByteArray × M)} {key : ByteArray} {j : Nat} (hj : j < ks.length) (h0 : (ks.take j).find? (fun p => decide (p.1 = key)) = none) (h : ¬ ks[j].1 = key) : (ks.take (j + 1)).find? (fun p => decide (p.1 = key)) = none := by
  rw [List.take_succ_eq_append_getElem hj, List.find?_append, h0]
  simp [h]
theorem key_eq (key : ByteArray) (b : Nat) (yk : Int) (yf : Bool) (yn : Int) (s ys : ByteArray) (yla yka : Option Addr) (yln ylc ykn ykc : Nat) (w : World) (hb : w.cell? ⟨b, 0, none⟩ = some (.string key)) :
    Calls Tryd.prog 32 #[.agg #[.string s, .int .i64 yk, .bool yf, .int .i64 yn, .string ys, .slice yla yln ylc, .slice yka ykn ykc], .pointer (some ⟨b, 0, none⟩)] w fun e w' => e = .returned (.bool (decide (s = key))) ∧ Fresh w w' := by
  have hb2 := ((Fresh.refl w).alloc (.cells #[.string s, .int .i64 yk, .bool yf, .int .i64 yn, .string ys, .slice yla yln ylc, .slice yka ykn ykc] 54)).cell hb
  have hne : b ≠ w.heap.size := by have := World.block_lt_of_cell? w ⟨b, 0, none⟩ hb; dsimp only at this; omega
  clear hb
  go_enter Tryd.func32, Tryd.ntmps32
  go_wp2
  go_ret
  exact ⟨by rw [toList_beq]; rfl, (Fresh.refl w).alloc _⟩
def FoundIs (key : ByteArray) (ks : List (ByteArray × M)) (w : World) (e : Ending) (w' : World) : Prop := ∃ i : Int, e = .returned (.int .i64 i) ∧ ((∃ (j : Nat) (h : j < ks.length), i = j ∧ ks.find? (fun p => decide (p.1 = key)) = some ks[j]) ∨ i = -1 ∧ ks.find? (fun p => decide (p.1 = key)) = none) ∧ Fresh w w'
set_option maxRecDepth 100000 in
set_option maxHeartbeats 1000000 in
theorem found_any (key : ByteArray) (b : Nat) (ks : List (ByteArray × M)) (la : Option Addr) (lc : Nat) (w : World) (hl : RowAt w la (pcells ks)) (ll : ks.length ≤ 1000000) (hb : w.cell? ⟨b, 0, none⟩ = some (.string key)) :
    Calls Tryd.prog 31 #[.slice la ks.length lc, .func (.func 32) #[] #[.pointer (some ⟨b, 0, none⟩)]] w (FoundIs key ks w) := by
  have HR := Lib.hid hl
  have HKB := Lib.hid hb
  clear hl hb
  have HLL : Hid (ks.length = ks.length) := rfl
  go_enter Tryd.func31, Tryd.ntmps31
  go_wp2
  go_loopw [8] (fun a8 wr => ∃ j : Nat, j ≤ ks.length ∧ a8 = .int .i64 j ∧ Hid ((ks.take j).find? (fun p => decide (p.1 = key)) = none) ∧ Hid (Fresh w wr)) (fun a8 _ => ks.length - (intOf a8).toNat)
  case atStart => exact ⟨0, Nat.zero_le _, rfl, rfl, Fresh.refl w⟩
  case round =>
    obtain ⟨j, hj, rfl, HA, HW⟩ := hrel
    by_cases hlt : j < ks.length
    · obtain ⟨g, eg⟩ := prow_some HR.out j hlt
      subst eg
      have hy := prow_get (HR.out.move HW.out) j hlt
      have HB : Hid (ks[j].1 = key → ks.find? (fun p => decide (p.1 = key)) = some ks[j]) := find_at hlt HA.out
      have HC : Hid (¬ ks[j].1 = key → (ks.take (j + 1)).find? (fun p => decide (p.1 = key)) = none) := find_on hlt HA.out
      have hk2 : ks[j].1 = ks[j].1 := rfl
      generalize hpp : ks[j] = p at *
      have HPP := Lib.hid hpp
      clear hpp
      obtain ⟨s, y⟩ := p
      obtain ⟨yk, yf, yn, ys, yla, ylc, yl, yka, ykc, yks⟩ := y
      dsimp only at hy HB HC
      obtain ⟨dk, d0, d1, d2, d3, d4, d5⟩ := hy
      have HQ : Hid (Calls Tryd.prog 32 #[.agg #[.string s, .int .i64 yk, .bool yf, .int .i64 yn, .string ys, .slice yla yl.length ylc, .slice yka yks.length ykc], .pointer (some ⟨b, 0, none⟩)] wr fun e w' => e = .returned (.bool (decide (s = key))) ∧ Fresh wr w') := key_eq key b yk yf yn s ys yla yka _ ylc _ ykc wr (HW.out.cell HKB.out)
      generalize yl.length = yln at *
      generalize yks.length = ykn at *
      by_cases hs : s = key
      · rw [decide_eq_true hs] at HQ
        have HE := HB.out hs
        have HE2 := Lib.hid HE
        clear HE hs hk2
        go_wp2_with fail
        refine HQ.out.mono ?_
        rintro e w1 ⟨rfl, hf⟩
        have HF := Lib.hid (HW.out.trans hf)
        clear hf
        go_wp2
        go_ret
        exact ⟨j, rfl, .inl ⟨j, hlt, rfl, by rw [HPP.out]; exact HE2.out⟩, HF.out⟩
      · rw [decide_eq_false hs] at HQ
        have HE := HC.out hs
        have HE2 := Lib.hid HE
        clear HE hs hk2
        go_wp2_with fail
        refine HQ.out.mono ?_
        rintro e w1 ⟨rfl, hf⟩
        have HF := Lib.hid (HW.out.trans hf)
        clear hf
        go_wp2
        go_roundw
        case rel => exact ⟨j + 1, by omega, by go_num, HE2.out, HF.out⟩
        case measure => simp [intOf]; omega
    · obtain rfl : j = ks.length := by omega
      have HE : Hid (ks.find? (fun p => decide (p.1 = key)) = none) := by have := HA.out; rw [List.take_length] at this; exact this
      go_wp2
      go_ret
      exact ⟨-1, rfl, .inr ⟨rfl, HE.out⟩, HW.out⟩
/-- What Get gives, as a value in memory. -/
def GotIs (v : V) (key : ByteArray) (w : World) (e : Ending) (w' : World) : Prop := (∃ (x : M) (ok : Bool), e = .returned (.tuple #[x.val, .bool ok]) ∧ x.At w' ∧ (x.plain, ok) = v.gets key) ∧ Fresh w w'
set_option maxRecDepth 100000 in
set_option maxHeartbeats 1000000 in
theorem get_any (m : M) (key : ByteArray) (w : World) (hat : m.At w) : Calls Tryd.prog 15 #[m.val, .string key] w (GotIs m.plain key w) := by
  obtain ⟨k, f, n, s, la, lc, l, ka, kc, ks⟩ := m
  have HAT := Lib.hid hat.parts
  clear hat
  dsimp only [M.val, M.plain]
  rw [plainL_eq, plainK_eq]
  generalize l.length = ln at *
  by_cases hk : k = 5
  · subst hk
    have HQ : Hid (∀ (b : Nat) (W : World), Fresh w W → W.cell? ⟨b, 0, none⟩ = some (.string key) → Calls Tryd.prog 31 #[.slice ka ks.length kc, .func (.func 32) #[] #[.pointer (some ⟨b, 0, none⟩)]] W (FoundIs key ks W)) := fun b W hf hb => found_any key b ks ka kc W (HAT.out.2.2.1.move hf) HAT.out.2.2.2.2.1 hb
    generalize hkn : ks.length = kn at HQ
    have HKN := Lib.hid hkn
    clear hkn
    go_enter Tryd.func15, Tryd.ntmps15
    go_wp2_with fail
    refine (HQ.out _ _ (((Fresh.refl w).alloc _).alloc _ |>.alloc _) ?_).mono ?_
    · have := at_new (w.alloc (.cells #[.int .i64 5, .bool f, .int .i64 n, .string s, .slice la ln lc, .slice ka kn kc] 29)) (.cells #[.string key] 9)
      rw [World.size_alloc] at this
      exact cell_of_at (at_alloc this) rfl
    rintro e w1 ⟨i, rfl, hfi, hf⟩
    have HFI := Lib.hid hfi
    have HF := Lib.hid ((((Fresh.refl w).alloc _).alloc _ |>.alloc _).trans hf)
    obtain ⟨b0, b1, b2, b3, b4, b5⟩ := box6' (hf.at (at_alloc (at_alloc (at_new w (.cells #[.int .i64 5, .bool f, .int .i64 n, .string s, .slice la ln lc, .slice ka kn kc] 29)))))
    have hb := hf.at (at_new ((w.alloc (.cells #[.int .i64 5, .bool f, .int .i64 n, .string s, .slice la ln lc, .slice ka kn kc] 29)).alloc (.cells #[.string key] 9)) (.cells #[.int .i64 0, .bool false, .int .i64 0, .string ⟨#[]⟩, .slice none 0 0, .slice none 0 0] 29))
    rw [World.size_alloc, World.size_alloc] at hb
    obtain ⟨c0, c1, c2, c3, c4, c5⟩ := box6' hb
    obtain ⟨z0, z1, z2, z3, z4, z5⟩ : w1.frozen? ⟨w.heap.size + 1 + 1, 0, none⟩ = false ∧ w1.frozen? ⟨w.heap.size + 1 + 1, 1, none⟩ = false ∧ w1.frozen? ⟨w.heap.size + 1 + 1, 2, none⟩ = false ∧ w1.frozen? ⟨w.heap.size + 1 + 1, 3, none⟩ = false ∧ w1.frozen? ⟨w.heap.size + 1 + 1, 4, none⟩ = false ∧ w1.frozen? ⟨w.heap.size + 1 + 1, 5, none⟩ = false := by simp [World.frozen?, hb]
    clear hf hb hfi
    rcases HFI.out with ⟨j, hj, rfl, he⟩ | ⟨rfl, he⟩
    · have HE := Lib.hid he
      obtain ⟨g, eg⟩ := prow_some HAT.out.2.2.1 j hj
      subst eg
      have hy := prow_get (HAT.out.2.2.1.move HF.out) j hj
      have HYA : Hid (ks[j].2.At w) := HAT.out.2.2.2.2.2.2.2 _ (List.getElem_mem _)
      have i1 : (j : Int) < (kn : Int) := by have := HKN.out; omega
      have i2 : ¬ (j : Int) < 0 := by omega
      have i3 : (0 : Int) ≤ (j : Int) := by omega
      clear he HFI
      generalize ks[j] = p at *
      obtain ⟨s', y⟩ := p
      obtain ⟨yk, yf, yn, ys, yla, ylc, yl, yka, ykc, yks⟩ := y
      dsimp only at hy HYA
      obtain ⟨dk, d0, d1, d2, d3, d4, d5⟩ := hy
      have HYV : Hid ((M.mk yk yf yn ys yla ylc yl yka ykc yks).val = .agg #[.int .i64 yk, .bool yf, .int .i64 yn, .string ys, .slice yla yl.length ylc, .slice yka yks.length ykc]) := rfl
      generalize yl.length = yln at *
      generalize yks.length = ykn at *
      go_wp2
      refine bodyPost_ret (v := .tuple #[.agg #[.int .i64 yk, .bool yf, .int .i64 yn, .string ys, .slice yla yln ylc, .slice yka ykn ykc], .bool true]) (by simp [results, Tryd.results15, go_sem, *]) rfl ⟨⟨M.mk yk yf yn ys yla ylc yl yka ykc yks, true, by rw [HYV.out], ?_, (gets_some HE.out).symm⟩, ?_⟩
      · refine HYA.out.move ?_
        exact Fresh.setCells (by omega) [.int .i64 yk, .bool yf, .int .i64 yn, .string ys, .slice yla yln ylc, .slice yka ykn ykc] 0 HF.out
      · exact Fresh.setCells (by omega) [.int .i64 yk, .bool yf, .int .i64 yn, .string ys, .slice yla yln ylc, .slice yka ykn ykc] 0 HF.out
    · have HE := Lib.hid he
      clear he HFI
      go_wp2
      refine bodyPost_ret (v := .tuple #[M0.val, .bool false]) (by simp [results, Tryd.results15, go_sem, M0, M.val, *]) rfl ⟨⟨M0, false, rfl, m0_at _, by rw [m0_plain]; exact (gets_none HE.out).symm⟩, ?_⟩
      exact Fresh.setCells (by omega) [.int .i64 0, .bool false, .int .i64 0, .string ⟨#[]⟩, .slice none 0 0, .slice none 0 0] 0 HF.out
  · have e5 : (k != 5) = true := by simpa using hk
    have HK := Lib.hid hk
    clear hk
    generalize ks.length = kn at *
    go_enter Tryd.func15, Tryd.ntmps15
    go_wp2
    refine bodyPost_ret (v := .tuple #[M0.val, .bool false]) (by simp [results, Tryd.results15, go_sem, M0, M.val, *]) rfl ⟨⟨M0, false, rfl, m0_at _, by rw [m0_plain]; exact (gets_no HK.out).symm⟩, ?_⟩
    exact (((Fresh.refl w).alloc _).alloc _).alloc _
end Go.Proofs.YtonakfkiidhebaaDoor
