/-
  PROVED: for every state of version 3 and every text, whose readings hold together with the library's two tables at most 1048576 values and letters, the given statement CkthreeBack returns true, where the library's two UTF-8 tables read as the program's text lays them (the card ties that); no other condition.
  Few pods, and small ones, all together: what bosunlaw19.Small says (printed by gensmall3.py.txt out of small3.frame.txt).
  bosunlaw19.CkthreeBack, walked.
-/
import Derived.Test.YtmomlgkpdoapoaaGreatDoorCat32
import Derived.Test.YtmomlgkpdoapoaaGreatDoorBak01
import Derived.Test.YtmomlgkpdoapoaaGreatDoorCat01
set_option linter.unusedSimpArgs false
set_option linter.unusedVariables false
namespace Go.Proofs.YtmomlgkpdoapoaaGreatDoor.K
open Go.ChangeShapes Go.WideShapes Go.ChangeAt Go.RowKit
set_option maxRecDepth 100000
set_option linter.unusedSimpArgs false

def sm3 : Nat → List P3 → Bool
  | _, [] => true
  | n, p :: l => if 40000 < n + (10 + p.file.size + weight p.pd) then false else sm3 (n + (10 + p.file.size + weight p.pd)) l
theorem sm3_drop {l : List P3} {k : Nat} (h : k < l.length) (n : Nat) : sm3 n (l.drop k) = if 40000 < n + (10 + l[k].file.size + weight l[k].pd) then false else sm3 (n + (10 + l[k].file.size + weight l[k].pd)) (l.drop (k + 1)) := by
  rw [List.drop_eq_getElem_cons h, sm3]
theorem weightA_up : ∀ (l : List Ct) (n : Nat), weightA n l ≤ n + 20001
  | [], n => by rw [weightA]; omega
  | c :: l, n => by
    rw [weightA]
    split
    · omega
    · rename_i h
      have : ∀ (l : List Ct) (m : Nat), m ≤ 20000 → weightA m l ≤ 20001 := by
        intro l
        induction l with
        | nil => intro m hm; rw [weightA]; omega
        | cons d l ih =>
          intro m _
          rw [weightA]
          split
          · omega
          · exact ih _ (by omega)
      have := this l _ (Nat.le_of_not_lt h)
      omega
set_option maxHeartbeats 8000000 in
theorem small3_any (seq : Int) (a : Option Addr) (l : List M3) (c : Nat) (w : World) (h : Row3 w a l) (hlo : ∀ m ∈ l, m.p.Lo) (hl : l.length ≤ 1048576) :
    Calls Tryz.prog 6 #[st3 seq a l.length c] w fun e w' => e = .returned (.bool (sm3 0 (pods3 l))) ∧ Fresh w w' := by
  have HA := Lib.hid (at_new w (.cells #[.int .u64 seq, .slice a l.length c] 25))
  have HF0 := Lib.hid ((Fresh.refl w).alloc (.cells #[.int .u64 seq, .slice a l.length c] 25))
  have HROW := Lib.hid (h.move HF0.out)
  have HLO := Lib.hid hlo
  have HC : Hid (sm3 0 (pods3 l) = sm3 0 ((pods3 l).drop 0)) := rfl
  have hpl : (pods3 l).length = l.length := by simp [pods3]
  generalize sm3 0 (pods3 l) = E at *
  dsimp only [st3] at *
  clear h hlo
  go_enter Tryz.func6, Tryz.ntmps6
  go_wp2
  generalize w.alloc (.cells #[.int .u64 seq, .slice a l.length c] 25) = W1 at *
  obtain ⟨z, hz⟩ : ∃ z, z = w.heap.size := ⟨_, rfl⟩
  rw [← hz] at HA ⊢
  clear hz
  go_loopw [3, 9] (fun a3 a9 wr => ∃ (k n : Nat), a9 = .int .i64 (k : Int) ∧ a3 = .int .i64 (n : Int) ∧ k ≤ l.length ∧ n ≤ 40000 ∧ Hid (E = sm3 n ((pods3 l).drop k)) ∧ Hid (Fresh W1 wr)) (fun _ a9 _ => l.length - (intOf a9).toNat)
  case atStart => exact ⟨0, 0, rfl, rfl, Nat.zero_le _, by omega, HC.out, .refl _⟩
  case round =>
  clear HC
  obtain ⟨k, n, rfl, rfl, hk, hn, HE, HF⟩ := hrel
  by_cases hlt : k < l.length
  case pos =>
    have hR := HROW.out.move HF.out
    obtain ⟨gb, o1, rfl, hc⟩ := m3_form hR.row hlt
    obtain ⟨c0, c1, c2, c3, c4, c5, c6⟩ := hc k hlt
    have hkp : k < (pods3 l).length := by omega
    have hpk := pods3_get hlt hkp
    have HLK := Lib.hid (HLO.out _ (List.getElem_mem hlt))
    have HIN := Lib.hid (hR.ins _ (List.getElem_mem hlt))
    have HST : Hid (E = if 40000 < n + (10 + l[k].p.file.size + weight l[k].p.pd) then false else sm3 (n + (10 + l[k].p.file.size + weight l[k].p.pd)) ((pods3 l).drop (k + 1))) := by
      have := HE.out.trans (sm3_drop hkp n)
      rw [hpk] at this; exact this
    clear hc hR hkp hpk HE
    generalize l[k] = m at *
    have HLOW := Lib.hid HLK.out.low
    have hfile := HLK.out.file
    have hname := HLK.out.name
    have hns := HLK.out.ns
    obtain ⟨file, name, ns, r, g, hb, ca, cc, cs⟩ := m
    simp only [M3.p, PM.pd] at hfile hname hns HST
    have hw : weight (PM.pd ⟨name, ns, r, g, hb, ca, cc, cs⟩) ≤ 2117153 := by
      have := weightA_up (PM.pd ⟨name, ns, r, g, hb, ca, cc, cs⟩).cs (name.size + ns.size)
      have e : weight (PM.pd ⟨name, ns, r, g, hb, ca, cc, cs⟩) = weightA (name.size + ns.size) (PM.pd ⟨name, ns, r, g, hb, ca, cc, cs⟩).cs := rfl
      rw [e]; omega
    have hWV : PM.val ⟨name, ns, r, g, hb, ca, cc, cs⟩ = Value.agg #[.string name, .string ns, .int .i64 r, .int .i64 g, .bool hb, .slice ca cs.length cc] := rfl
    have HST : Hid (E = if 40000 < n + (10 + file.size + weight (PM.pd ⟨name, ns, r, g, hb, ca, cc, cs⟩)) then false else sm3 (n + (10 + file.size + weight (PM.pd ⟨name, ns, r, g, hb, ca, cc, cs⟩))) ((pods3 l).drop (k + 1))) := HST.out
    have HW : Hid (∀ W, Fresh wr W → Calls Tryz.prog 21 #[.agg #[.string name, .string ns, .int .i64 r, .int .i64 g, .bool hb, .slice ca cs.length cc]] W fun e w' => e = .returned (.int .i64 (weight (PM.pd ⟨name, ns, r, g, hb, ca, cc, cs⟩) : Int)) ∧ Fresh W w') := fun W f => by
      have := weight_any ⟨name, ns, r, g, hb, ca, cc, cs⟩ W (HIN.out.move f) HLOW.out
      rw [hWV] at this; exact this
    clear hWV HIN HLOW HLK
    dsimp only at *
    generalize weight (PM.pd ⟨name, ns, r, g, hb, ca, cc, cs⟩) = K at *
    have HP := Lib.hid (at_new wr (.cells #[.string file, .string name, .string ns, .int .i64 r, .int .i64 g, .bool hb, .slice ca cs.length cc] 61))
    have HF1 := Lib.hid ((Fresh.refl wr).alloc (.cells #[.string file, .string name, .string ns, .int .i64 r, .int .i64 g, .bool hb, .slice ca cs.length cc] 61))
    have w1 : IntKind.i64.wrap (10 + (file.size : Int)) = 10 + (file.size : Int) := IntWalk.i64_in _ (by omega)
    have w2 : IntKind.i64.wrap (10 + (file.size : Int) + (K : Int)) = 10 + (file.size : Int) + (K : Int) := IntWalk.i64_in _ (by omega)
    obtain ⟨s, hs⟩ : ∃ s, s = n + (10 + file.size + K) := ⟨_, rfl⟩
    have w3 : IntKind.i64.wrap ((n : Int) + (10 + (file.size : Int) + (K : Int))) = (s : Int) := by rw [IntWalk.i64_in _ (by omega)]; omega
    have hs1 : s ≤ 4000000 := by omega
    rw [← hs] at HST
    clear hs hw hfile hname hns
    have i1 : (0 : Int) ≤ (k : Int) := by omega
    have i2 : (k : Int) < (l.length : Int) := by omega
    go_wp2_with (fail)
    all_goals try (exfalso; omega)
    generalize wr.alloc (.cells #[.string file, .string name, .string ns, .int .i64 r, .int .i64 g, .bool hb, .slice ca cs.length cc] 61) = V1 at *
    obtain ⟨y, hy⟩ : ∃ y, y = wr.heap.size := ⟨_, rfl⟩
    rw [← hy] at HP ⊢
    clear hy
    have HW : Hid (∀ W, Fresh V1 W → Calls Tryz.prog 21 #[.agg #[.string name, .string ns, .int .i64 r, .int .i64 g, .bool hb, .slice ca cs.length cc]] W fun e w' => e = .returned (.int .i64 (K : Int)) ∧ Fresh W w') := fun W f => HW.out W (HF1.out.trans f)
    have HKQ : Hid (∀ W, Fresh V1 W → W.cell? ⟨y, 0, none⟩ = some (.string file) ∧ W.cell? ⟨y, 1, none⟩ = some (.string name) ∧ W.cell? ⟨y, 2, none⟩ = some (.string ns) ∧ W.cell? ⟨y, 3, none⟩ = some (.int .i64 r) ∧ W.cell? ⟨y, 4, none⟩ = some (.int .i64 g) ∧ W.cell? ⟨y, 5, none⟩ = some (.bool hb) ∧ W.cell? ⟨y, 6, none⟩ = some (.slice ca cs.length cc)) := fun W f =>
      ⟨cell_of_at (f.at HP.out) rfl, cell_of_at (f.at HP.out) rfl, cell_of_at (f.at HP.out) rfl, cell_of_at (f.at HP.out) rfl, cell_of_at (f.at HP.out) rfl, cell_of_at (f.at HP.out) rfl, cell_of_at (f.at HP.out) rfl⟩
    clear c0 c1 c2 c3 c4 c5 c6
    have HK : Hid (Fresh V1 V1.drew) := (Fresh.refl V1).drew
    rename_i KK hKK
    refine flowM_region [some (Value.int .i64 (n : Int)), some (Value.pointer (some ⟨y, 0, none⟩)), some (Value.string file), some (Value.int .i64 (file.size : Int)), some (Value.int .i64 (10 + (file.size : Int))), some (Value.pointer (some ⟨y, 1, none⟩)), some (Value.agg #[.string name, .string ns, .int .i64 r, .int .i64 g, .bool hb, .slice ca cs.length cc]), some (Value.int .i64 (K : Int)), some (Value.int .i64 (10 + (file.size : Int) + (K : Int))), some (Value.int .i64 (s : Int)), some (Value.int .i64 (s : Int))] (fun _ _ _ => False) rfl (n := 26) rfl (by decide +kernel) (fun _ _ _ _ h _ => h) ⟨?_, ?_, ?_, ?_, ?_, ?_, ?_, ?_, ?_, ?_, ?_, trivial⟩ ?_
    · intro a W hf hin hst
      have g3 := ev_get (show a.eval (.tmp 3) = Value.int .i64 (n : Int) from hst 3 (by decide +kernel))
      refine .inl ⟨Value.int .i64 (n : Int), W, ?_, .refl _, rfl⟩
      simp [execOp, g3, go_sem]
    · intro a W hf hin hst
      have g5 := ev_get (show a.eval (.tmp 5) = Value.pointer (some ⟨y, 0, none⟩) from hst 5 (by decide +kernel))
      refine .inl ⟨Value.pointer (some ⟨y, 0, none⟩), W, ?_, .refl _, rfl⟩
      simp [execOp, g5, go_sem]
    · intro a W hf hin hst
      obtain ⟨m0, m1, m2, m3, m4, m5, m6⟩ := HKQ.out W (HK.out.trans hf)
      have g14 := ev_get (show a.eval (.tmp 14) = Value.pointer (some ⟨y, 0, none⟩) from hin 1 14 (by decide +kernel) (by decide +kernel))
      refine .inl ⟨Value.string file, W, ?_, .refl _, rfl⟩
      simp [execOp, g14, go_sem, m0, m1, m2, m3, m4, m5, m6]
    · intro a W hf hin hst
      have g15 := ev_get (show a.eval (.tmp 15) = Value.string file from hin 2 15 (by decide +kernel) (by decide +kernel))
      refine .inl ⟨Value.int .i64 (file.size : Int), W, ?_, .refl _, rfl⟩
      simp [execOp, g15, go_sem]
    · intro a W hf hin hst
      have g16 := ev_get (show a.eval (.tmp 16) = Value.int .i64 (file.size : Int) from hin 3 16 (by decide +kernel) (by decide +kernel))
      refine .inl ⟨Value.int .i64 (10 + (file.size : Int)), W, ?_, .refl _, rfl⟩
      simp [execOp, g16, go_sem, w1]
    · intro a W hf hin hst
      have g5 := ev_get (show a.eval (.tmp 5) = Value.pointer (some ⟨y, 0, none⟩) from hst 5 (by decide +kernel))
      refine .inl ⟨Value.pointer (some ⟨y, 1, none⟩), W, ?_, .refl _, rfl⟩
      simp [execOp, g5, go_sem]
    · intro a W hf hin hst
      obtain ⟨m0, m1, m2, m3, m4, m5, m6⟩ := HKQ.out W (HK.out.trans hf)
      have g18 := ev_get (show a.eval (.tmp 18) = Value.pointer (some ⟨y, 1, none⟩) from hin 5 18 (by decide +kernel) (by decide +kernel))
      refine .inl ⟨Value.agg #[.string name, .string ns, .int .i64 r, .int .i64 g, .bool hb, .slice ca cs.length cc], W, ?_, .refl _, rfl⟩
      simp [execOp, g18, go_sem, m0, m1, m2, m3, m4, m5, m6]
    · intro a W hf hin hst
      have g19 := ev_get (show a.eval (.tmp 19) = Value.agg #[.string name, .string ns, .int .i64 r, .int .i64 g, .bool hb, .slice ca cs.length cc] from hin 6 19 (by decide +kernel) (by decide +kernel))
      exact .inr ⟨21, #[Value.agg #[.string name, .string ns, .int .i64 r, .int .i64 g, .bool hb, .slice ca cs.length cc]], by simp [execOp, g19, go_sem], (HW.out W (HK.out.trans hf)).mono (fun e V h => ⟨_, h.1, h.2, rfl⟩)⟩
    · intro a W hf hin hst
      have g17 := ev_get (show a.eval (.tmp 17) = Value.int .i64 (10 + (file.size : Int)) from hin 4 17 (by decide +kernel) (by decide +kernel))
      have g20 := ev_get (show a.eval (.tmp 20) = Value.int .i64 (K : Int) from hin 7 20 (by decide +kernel) (by decide +kernel))
      refine .inl ⟨Value.int .i64 (10 + (file.size : Int) + (K : Int)), W, ?_, .refl _, rfl⟩
      simp [execOp, g17, g20, go_sem, w2]
    · intro a W hf hin hst
      have g13 := ev_get (show a.eval (.tmp 13) = Value.int .i64 (n : Int) from hin 0 13 (by decide +kernel) (by decide +kernel))
      have g21 := ev_get (show a.eval (.tmp 21) = Value.int .i64 (10 + (file.size : Int) + (K : Int)) from hin 8 21 (by decide +kernel) (by decide +kernel))
      refine .inl ⟨Value.int .i64 (s : Int), W, ?_, .refl _, rfl⟩
      simp [execOp, g13, g21, go_sem, w3]
    · intro a W hf hin hst
      have g22 := ev_get (show a.eval (.tmp 22) = Value.int .i64 (s : Int) from hin 9 22 (by decide +kernel) (by decide +kernel))
      refine .inl ⟨Value.int .i64 (s : Int), W, ?_, .refl _, rfl⟩
      simp [execOp, g22, go_sem]
    intro a W hsz hdf hf hkp hr
    have HK := Lib.hid (HK.out.trans hf)
    have ha := act_lit (n := 26) hsz hdf
    have k0 : a.eval (.tmp 0) = Value.agg #[.int .u64 seq, .slice (some ⟨gb, o1, none⟩) l.length c] := hkp 0 (by decide +kernel)
    have k1 : a.eval (.tmp 1) = Value.pointer (some ⟨z, 0, none⟩) := hkp 1 (by decide +kernel)
    have k4 : a.eval (.tmp 4) = undef := hkp 4 (by decide +kernel)
    have k6 : a.eval (.tmp 6) = Value.pointer (some ⟨z, 1, none⟩) := hkp 6 (by decide +kernel)
    have k7 : a.eval (.tmp 7) = Value.slice (some ⟨gb, o1, none⟩) l.length c := hkp 7 (by decide +kernel)
    have k8 : a.eval (.tmp 8) = Value.int .i64 (l.length : Int) := hkp 8 (by decide +kernel)
    have k9 : a.eval (.tmp 9) = Value.int .i64 (k : Int) := hkp 9 (by decide +kernel)
    have k3 : a.eval (.tmp 3) = Value.int .i64 (s : Int) := hr 10 3 (by decide +kernel)
    simp only [List.range, List.range.loop, List.map_cons, List.map_nil, k0, k1, k4, k6, k7, k8, k9, k3] at ha
    clear k0 k1 k4 k6 k7 k8 k9 k3 hsz hdf hkp hr hf
    generalize a.eval (.tmp 2) = v2 at ha
    generalize a.eval (.tmp 5) = v5 at ha
    generalize a.eval (.tmp 10) = v10 at ha
    generalize a.eval (.tmp 11) = v11 at ha
    generalize a.eval (.tmp 12) = v12 at ha
    generalize a.eval (.tmp 13) = v13 at ha
    generalize a.eval (.tmp 14) = v14 at ha
    generalize a.eval (.tmp 15) = v15 at ha
    generalize a.eval (.tmp 16) = v16 at ha
    generalize a.eval (.tmp 17) = v17 at ha
    generalize a.eval (.tmp 18) = v18 at ha
    generalize a.eval (.tmp 19) = v19 at ha
    generalize a.eval (.tmp 20) = v20 at ha
    generalize a.eval (.tmp 21) = v21 at ha
    generalize a.eval (.tmp 22) = v22 at ha
    generalize a.eval (.tmp 23) = v23 at ha
    generalize a.eval (.tmp 24) = v24 at ha
    generalize a.eval (.tmp 25) = v25 at ha
    subst ha
    refine hKK _ W ?_
    have HFN := Lib.hid ((HF.out.trans HF1.out).trans HK.out)
    clear hKK
    by_cases hbig : 40000 < s
    · have HR : Hid (E = false) := by rw [Hid, HST.out, if_pos hbig]
      clear HST
      go_wp2
      all_goals try (exfalso; omega)
      go_ret
      exact ⟨ret_bool HR.out.symm, HF0.out.trans HFN.out⟩
    · have HR : Hid (E = sm3 s ((pods3 l).drop (k + 1))) := by rw [Hid, HST.out, if_neg hbig]
      clear HST
      go_wp2
      all_goals try (exfalso; omega)
      go_roundw
      case rel => exact ⟨k + 1, s, by simp, rfl, by omega, by omega, HR.out, HFN.out⟩
      case measure => simp [intOf]; omega
  case neg =>
    obtain rfl : k = l.length := by omega
    have HR : Hid (E = true) := by rw [Hid, HE.out, List.drop_of_length_le (by omega)]; rfl
    go_wp2
    all_goals try (exfalso; omega)
    go_ret
    exact ⟨ret_bool HR.out.symm, HF0.out.trans HF.out⟩
theorem small3_at (seq : Int) (a : Option Addr) (L : List P3) (c : Nat) (w : World) (h : AtL L w a) (hl : L.length ≤ 1048576) (hlo : ∀ p ∈ L, p.Lo) :
    Calls Tryz.prog 6 #[st3 seq a L.length c] w fun e w' => e = .returned (.bool (sm3 0 L)) ∧ Fresh w w' := by
  obtain ⟨D, rfl, hr⟩ := h
  rw [pods3_length] at hl ⊢
  exact small3_any seq a D c w hr (fun m hm => hlo _ (pods3_mem hm)) hl
end Go.Proofs.YtmomlgkpdoapoaaGreatDoor.K
namespace Go.Proofs.YtmomlgkpdoapoaaGreatDoor.K
open Go.ChangeShapes Go.WideShapes Go.ChangeAt Go.RowKit
set_option maxRecDepth 100000

set_option maxHeartbeats 8000000 in
theorem back3_any (seq : Int) (a : Option Addr) (l : List P3) (c : Nat) (b : ByteArray) (w : World) (h : AtL l w a) (hT : Tabs w) (hl : l.length ≤ 1048576) (hlo : ∀ p ∈ l, p.Lo) (hs0 : 0 ≤ seq) (hs1 : seq ≤ 18446744073709551615) (hb : b.size ≤ maxLen) :
    Calls Tryz.prog 5 #[st3 seq a l.length c, .string b] w fun e w' => e = .returned (.bool true) ∧ Fresh w w' := by
  have HT := Lib.hid hT
  have HAW := Lib.hid (fun W (f : Fresh w W) => awake19_any W (HT.out.move f))
  have HF0 := Lib.hid ((Fresh.refl w).alloc (.cells #[.int .u64 seq, .slice a l.length c] 25))
  have HA := Lib.hid (at_new w (.cells #[.int .u64 seq, .slice a l.length c] 25))
  have HROW := Lib.hid (h.move HF0.out)
  have HSM := Lib.hid (small3_at seq a l c _ HROW.out hl hlo)
  have hdb := fun W (f : Fresh w W) => decode3_at b W (HT.out.move f) hb
  have hbad := dec3_bad b
  have hgood := fun q L => @enc_dec3 b q L
  have hfit := (dec3_fit b).2.1
  unfold DecAt at hdb
  unfold maxLen at hb
  obtain ⟨C, q, L, hR⟩ : ∃ C q L, dec3 b = (C, q, L) := ⟨_, _, _, rfl⟩
  rw [hR] at hdb hbad hfit
  dsimp only at hdb hbad hfit
  clear hT
  have HDB := Lib.hid hdb
  have HBAD : Hid (C ≠ 0 → q = 0 ∧ L = []) := hbad
  have HGOOD : Hid (C = 0 → ∀ a c W, Fresh w W → AtL L W a → Calls Tryz.prog 10 #[.agg #[.int .u64 q, .slice a L.length c]] W fun e w' => e = .returned (.tuple #[.string b, .int .i64 0]) ∧ Fresh W w') := fun hC a c W f hrow => by
    obtain ⟨g1, g2, g3, g4, g5⟩ := hgood q L (by rw [hR, hC])
    have := encode3_at_ok q a L c W (HT.out.move f) hrow (by omega) (fun p hp => lo_of (g5 p hp)) g2 g3 g4
    rw [g1] at this
    exact this
  clear hdb hbad hgood hR hfit
  dsimp only [st3] at *
  cases hsm : sm3 0 l with
  | false =>
    rw [hsm] at HSM
    clear hsm h hlo HDB HBAD HGOOD
    go_enter Tryz.func5, Tryz.ntmps5
    go_wp2_with (fail)
    refine HSM.out.mono ?_
    rintro e w1 ⟨rfl, hf⟩
    have HF1 := Lib.hid (HF0.out.trans hf)
    clear hf
    go_wp2_with (fail)
    refine (HAW.out _ HF1.out).mono ?_
    rintro e w2 ⟨rfl, hf⟩
    have HF2 := Lib.hid (HF1.out.trans hf)
    clear hf
    go_wp2
    go_ret
    exact ⟨rfl, HF2.out⟩
  | true =>
    rw [hsm] at HSM
    by_cases hbig : 20000 < b.size
    · clear hsm h hlo HDB HBAD HGOOD
      go_enter Tryz.func5, Tryz.ntmps5
      go_wp2_with (fail)
      refine HSM.out.mono ?_
      rintro e w1 ⟨rfl, hf⟩
      have HF1 := Lib.hid (HF0.out.trans hf)
      clear hf
      go_wp2_with (fail)
      all_goals try (exfalso; omega)
      refine (HAW.out _ HF1.out).mono ?_
      rintro e w2 ⟨rfl, hf⟩
      have HF2 := Lib.hid (HF1.out.trans hf)
      clear hf
      go_wp2
      go_ret
      exact ⟨rfl, HF2.out⟩
    clear hsm
    by_cases hck : chk3 l = 0
    case neg =>
      have HEN := Lib.hid (fun W (f : Fresh w W) => encode3_at_bad seq a l c W (HT.out.move f) (h.move f) hl hlo hck)
      have e0 : (chk3 l == 0) = false := by rw [beq_eq_false_iff_ne]; exact hck
      dsimp only [st3] at HEN
      generalize chk3 l = K at *
      clear hck h hlo
      go_enter Tryz.func5, Tryz.ntmps5
      go_wp2_with (fail)
      refine HSM.out.mono ?_
      rintro e w1 ⟨rfl, hf⟩
      have HF1 := Lib.hid (HF0.out.trans hf)
      obtain ⟨q0, q1, _⟩ := st3_box (hf.at HA.out)
      clear hf
      go_wp2_with (fail)
      all_goals try (exfalso; omega)
      refine (HEN.out _ HF1.out).mono ?_
      rintro e w2 ⟨rfl, hf⟩
      have HFX := Lib.hid (HF1.out.trans hf)
      clear hf q0 q1
      go_wp2_with (fail)
      all_goals try (exfalso; omega)
      refine (HDB.out _ HFX.out).mono ?_
      rintro e w5 ⟨ab, cb, rfl, hrow, hf⟩
      have HF5 := Lib.hid (HFX.out.trans hf)
      have HROW5 := Lib.hid hrow
      clear hrow hf HFX
      dsimp only [st3]
      by_cases hC : C = 0
      case neg =>
        have e0 : (C != 0) = true := by simpa using hC
        obtain ⟨rfl, rfl⟩ := HBAD.out hC
        clear HBAD HGOOD
        have HB5 := Lib.hid (at_new w5 (.cells #[.int .u64 0, .slice ab ([] : List P3).length cb] 25))
        have HF6 := Lib.hid (HF5.out.alloc (.cells #[.int .u64 0, .slice ab ([] : List P3).length cb] 25))
        go_wp2_with (fail)
        refine (HAW.out _ HF6.out).mono ?_
        rintro e w6 ⟨rfl, hf⟩
        obtain ⟨q0, q1, _⟩ := st3_box (hf.at HB5.out)
        have HF7 := Lib.hid (HF6.out.trans hf)
        clear hf
        go_wp2
        go_ret
        exact ⟨rfl, HF7.out⟩
      subst hC
      have HEB := Lib.hid (HGOOD.out rfl)
      clear HBAD HGOOD
      have HB5 := Lib.hid (at_new w5 (.cells #[.int .u64 q, .slice ab L.length cb] 25))
      have HF6 := Lib.hid (HF5.out.alloc (.cells #[.int .u64 q, .slice ab L.length cb] 25))
      have HENC := Lib.hid (HEB.out ab cb _ HF6.out (HROW5.out.move ((Fresh.refl w5).alloc (.cells #[.int .u64 q, .slice ab L.length cb] 25))))
      clear HEB HROW5 HF5
      go_wp2_with (fail)
      refine HENC.out.mono ?_
      rintro e w6 ⟨rfl, hf⟩
      have HF7 := Lib.hid (HF6.out.trans hf)
      clear hf
      go_wp2_with (fail)
      refine (HAW.out _ HF7.out).mono ?_
      rintro e w7 ⟨rfl, hf⟩
      have HF8 := Lib.hid (HF7.out.trans hf)
      clear hf
      go_wp2
      go_ret
      exact ⟨rfl, HF8.out⟩
    case pos =>
      have HEN := Lib.hid (fun W (f : Fresh w W) => encode3_at_ok seq a l c W (HT.out.move f) (h.move f) hl hlo hck hs0 hs1)
      have hde := dec_enc3 seq l hs0 hs1 hck
      have henl : (tx (enc3L seq l)).size ≤ maxLen := by
        obtain ⟨h1, h2⟩ := chk3_ok hck
        have h3 := flat_le pod3L 2250000 l (fun p hp => pod3L_len (h2 p hp))
        have h4 : l.length * 2250000 ≤ 1024 * 2250000 := Nat.mul_le_mul h1 (Nat.le_refl _)
        rw [tx_size, enc3L]
        simp only [List.length_append, be_length]
        unfold maxLen
        omega
      have hdx := fun W (f : Fresh w W) => decode3_at (tx (enc3L seq l)) W (HT.out.move f) henl
      unfold DecAt at hdx
      rw [hde] at hdx
      have HDX := Lib.hid hdx
      dsimp only [st3] at HEN HDX
      have HOF1 : Hid (∀ W a c, AtL l W a → Calls Tryz.prog 8 #[.agg #[.int .u64 seq, .slice a l.length c]] W fun r w' => ∃ a c, r = .returned (.agg #[.int .u64 seq, .slice a l.length c]) ∧ AtL l w' a ∧ Fresh W w') := fun W a c hr => of3_at seq a l c W hr hl hlo
      have HSAME : Hid (∀ W a1 c1 a2 c2, AtL l W a1 → AtL l W a2 → Calls Tryz.prog 18 #[.agg #[.int .u64 seq, .slice a1 l.length c1], .agg #[.int .u64 seq, .slice a2 l.length c2]] W fun e w' => e = .returned (.bool true) ∧ Fresh W w') := fun W a1 c1 a2 c2 h1 h2 => by
        have := rsame3_at seq seq l l a1 a2 c1 c2 W h1 h2 hl hlo hlo
        rw [same3_self] at this
        exact this
      generalize tx (enc3L seq l) = X at *
      clear hck hde henl hdx hlo
      go_enter Tryz.func5, Tryz.ntmps5
      go_wp2_with (fail)
      refine HSM.out.mono ?_
      rintro e w1 ⟨rfl, hf⟩
      have HF1 := Lib.hid (HF0.out.trans hf)
      have HA1 := Lib.hid (hf.at HA.out)
      obtain ⟨q0, q1, _⟩ := st3_box HA1.out
      clear hf
      go_wp2_with (fail)
      all_goals try (exfalso; omega)
      refine (HEN.out _ HF1.out).mono ?_
      rintro e w2 ⟨rfl, hf⟩
      have HF2 := Lib.hid (HF1.out.trans hf)
      have HA2 := Lib.hid (hf.at HA1.out)
      clear hf q0 q1
      go_wp2_with (fail)
      refine (HDX.out _ HF2.out).mono ?_
      rintro e w3 ⟨a1, c1, rfl, hrow, hf⟩
      have HB := Lib.hid (at_new w3 (.cells #[.int .u64 seq, .slice a1 l.length c1] 25))
      have HA3 := Lib.hid (at_alloc (p := .cells #[.int .u64 seq, .slice a1 l.length c1] 25) (hf.at HA2.out))
      have HF3 := Lib.hid ((HF2.out.trans hf).alloc (.cells #[.int .u64 seq, .slice a1 l.length c1] 25))
      have HR1 := Lib.hid (hrow.move ((Fresh.refl w3).alloc (.cells #[.int .u64 seq, .slice a1 l.length c1] 25)))
      have HR0 := Lib.hid (h.move HF3.out)
      clear hrow hf HF2 HA2 HA1 HF1 h
      go_wp2_with (fail)
      generalize w3.alloc (.cells #[.int .u64 seq, .slice a1 l.length c1] 25) = V at *
      obtain ⟨y, hy⟩ : ∃ y, y = w3.heap.size := ⟨_, rfl⟩
      obtain ⟨z, hz⟩ : ∃ z, z = w.heap.size := ⟨_, rfl⟩
      rw [← hy] at HB ⊢
      rw [← hz] at HA3 ⊢
      clear hy hz HA
      have HKP : Hid (∀ W, Fresh V W → W.cell? ⟨y, 0, none⟩ = some (.int .u64 seq) ∧ W.cell? ⟨y, 1, none⟩ = some (.slice a1 l.length c1) ∧ W.cell? ⟨z, 0, none⟩ = some (.int .u64 seq) ∧ W.cell? ⟨z, 1, none⟩ = some (.slice a l.length c)) := fun W f =>
        ⟨(st3_box (f.at HB.out)).1, (st3_box (f.at HB.out)).2.1, (st3_box (f.at HA3.out)).1, (st3_box (f.at HA3.out)).2.1⟩
      obtain ⟨k0, k1, k2, k3⟩ := HKP.out V (.refl _)
      have HK : Hid (Fresh V V.drew) := (Fresh.refl V).drew
      have hdf : decide ((0 : Int) ≠ 0) = false := rfl
      go_region_held3 (fun w' => (w'.cell? ⟨y, 0, none⟩ = some (.int .u64 seq) ∧ w'.cell? ⟨y, 1, none⟩ = some (.slice a1 l.length c1) ∧ w'.cell? ⟨z, 0, none⟩ = some (.int .u64 seq) ∧ w'.cell? ⟨z, 1, none⟩ = some (.slice a l.length c))) (go_keep)
        (first
          | (go_at_call 8; (with_reducible refine (HOF1.out _ a1 c1 (HR1.out.move HK.out)).mono ?_); rintro e W2 ⟨a2, c2, rfl, hown, hf⟩; have HRQ := Lib.hid hown; have HK := Lib.hid (HK.out.trans hf); obtain ⟨k0, k1, k2, k3⟩ := HKP.out _ HK.out; clear hf hown)
          | (go_at_call 8; (with_reducible refine (HOF1.out _ a c (HR0.out.move HK.out)).mono ?_); rintro e W2 ⟨a3, c3, rfl, hown, hf⟩; have HRQ := Lib.hid (HRQ.out.move hf); have HRP := Lib.hid hown; have HK := Lib.hid (HK.out.trans hf); obtain ⟨k0, k1, k2, k3⟩ := HKP.out _ HK.out; clear hf hown)
          | (go_at_call 18; (with_reducible refine (HSAME.out _ _ _ _ _ HRQ.out HRP.out).mono ?_); rintro e W2 ⟨rfl, hf⟩; have HK := Lib.hid (HK.out.trans hf); obtain ⟨k0, k1, k2, k3⟩ := HKP.out _ HK.out; clear hf))
      have HFX := Lib.hid (HF3.out.trans HK.out)
      clear k0 k1 k2 k3 HK HKP HSAME HOF1
      go_wp2_with (fail)
      all_goals try (exfalso; omega)
      refine (HDB.out _ HFX.out).mono ?_
      rintro e w5 ⟨ab, cb, rfl, hrow, hf⟩
      have HF5 := Lib.hid (HFX.out.trans hf)
      have HROW5 := Lib.hid hrow
      clear hrow hf HFX
      dsimp only [st3]
      by_cases hC : C = 0
      case neg =>
        have e0 : (C != 0) = true := by simpa using hC
        obtain ⟨rfl, rfl⟩ := HBAD.out hC
        clear HBAD HGOOD
        have HB5 := Lib.hid (at_new w5 (.cells #[.int .u64 0, .slice ab ([] : List P3).length cb] 25))
        have HF6 := Lib.hid (HF5.out.alloc (.cells #[.int .u64 0, .slice ab ([] : List P3).length cb] 25))
        go_wp2_with (fail)
        refine (HAW.out _ HF6.out).mono ?_
        rintro e w6 ⟨rfl, hf⟩
        obtain ⟨q0, q1, _⟩ := st3_box (hf.at HB5.out)
        have HF7 := Lib.hid (HF6.out.trans hf)
        clear hf
        go_wp2
        go_ret
        exact ⟨rfl, HF7.out⟩
      subst hC
      have HEB := Lib.hid (HGOOD.out rfl)
      clear HBAD HGOOD
      have HB5 := Lib.hid (at_new w5 (.cells #[.int .u64 q, .slice ab L.length cb] 25))
      have HF6 := Lib.hid (HF5.out.alloc (.cells #[.int .u64 q, .slice ab L.length cb] 25))
      have HENC := Lib.hid (HEB.out ab cb _ HF6.out (HROW5.out.move ((Fresh.refl w5).alloc (.cells #[.int .u64 q, .slice ab L.length cb] 25))))
      clear HEB HROW5 HF5
      go_wp2_with (fail)
      refine HENC.out.mono ?_
      rintro e w6 ⟨rfl, hf⟩
      have HF7 := Lib.hid (HF6.out.trans hf)
      clear hf
      go_wp2_with (fail)
      refine (HAW.out _ HF7.out).mono ?_
      rintro e w7 ⟨rfl, hf⟩
      have HF8 := Lib.hid (HF7.out.trans hf)
      clear hf
      go_wp2
      go_ret
      exact ⟨rfl, HF8.out⟩
end Go.Proofs.YtmomlgkpdoapoaaGreatDoor.K
namespace Go.Proofs.YtmomlgkpdoapoaaGreatDoor
open Go.ChangeShapes Go.WideShapes Go.ChangeAt Go.RowKit Go.Shelf
open Go.ChangeMaps (open_string shut_string)
set_option linter.unusedVariables false

abbrev st0 : Value := .agg #[.int .u64 0, .slice none 0 0]
theorem laid_metB (os : Os) (args : Array Value) : laidMet Tryz.prog Rows.ckthreeBackUptoRow.laid ((laidWorld os).forCall (fun _ _ => 0) ⟨#[], args, []⟩).memory :=
  (LaidIn.of_run (l := [("unicode/utf8.acceptRanges", Rows.laid_unicode_utf8_acceptRanges), ("unicode/utf8.first", Rows.laid_unicode_utf8_first)]) [1, 0] 8 (by kernel_rfl) (by kernel_rfl) (by kernel_rfl) (by kernel_rfl)).met
theorem witness_back (os : Os) {H : Type} (enc : TypeId × Value → H) :
    (Rows.OpenSpec.upto Rows.ckthreeBackSpec).preRow enc Tryz.prog Tryz.f5 Rows.ckthreeBackUptoRow.domain false Rows.ckthreeBackUptoRow.laid ((laidWorld os).forCall (fun _ _ => 0) ⟨#[], #[st0, .string ⟨#[]⟩], []⟩).memory #[st0, .string ⟨#[]⟩] := by
  have hw : (DataW.whole enc Tryz.prog ((laidWorld os).forCall (fun _ _ => 0) ⟨#[], #[st0, .string ⟨#[]⟩], []⟩).memory Tryz.f5.params.toList (Rows.OpenSpec.upto Rows.ckthreeBackSpec).vars false #[st0, Value.string ⟨#[]⟩].toList 8).map (fun x => (x.1, x.2.1)) =
      some ([.agg [.lit (.int .u64 0), .nil], .lit (.string [])], []) := by kernel_rfl
  obtain ⟨⟨x1, x2, x3⟩, hx, hx1⟩ := Option.map_eq_some_iff.1 hw
  simp only [Prod.mk.injEq] at hx1
  obtain ⟨rfl, rfl⟩ := hx1
  exact OpenSpec.preRow_of_cond 8 hx (by kernel_rfl) (fun k hk => by cases hk; kernel_rfl) (by kernel_rfl) (laid_metB os _)
set_option maxRecDepth 100000 in
theorem utf8_tabsB {W : World} (hL : laidMet Tryz.prog Rows.ckthreeBackUptoRow.laid W) : UTabs W :=
  utf8Tabs_of_readsT u8types ⟨by kernel_rfl, by kernel_rfl, by kernel_rfl, by kernel_rfl, by kernel_rfl, by kernel_rfl, by kernel_rfl⟩
    (by rw [← first_eq]; exact Lib.laidMet.reads hL (.tail _ (.head _))) (by rw [← accept_eq]; exact Lib.laidMet.reads hL (.head _))
set_option maxRecDepth 100000 in
set_option maxHeartbeats 2000000 in
theorem lifted_back (os : Os) (started : os.Started) (H : Type) (enc : TypeId × Value → H) (F : Stop.Interp) :
    ReturnsInHanded {} Tryz.checked os 5 .any ((Rows.OpenSpec.upto Rows.ckthreeBackSpec).preRow enc Tryz.prog Tryz.f5 Rows.ckthreeBackUptoRow.domain false Rows.ckthreeBackUptoRow.laid) (((Rows.OpenSpec.upto Rows.ckthreeBackSpec).at F).post enc Tryz.prog Tryz.f5 false true false false) := by
  refine returnsInHanded_of_row (C := Tryz.checked) (s := Rows.OpenSpec.upto Rows.ckthreeBackSpec) own started (by kernel_rfl) Tryz.func5
    (witness_row_atRef (enc := enc) (C := Tryz.checked) false (laidWorld os) #[st0, .string ⟨#[]⟩] rfl (by kernel_rfl) (by kernel_rfl) (by kernel_rfl) (witness_back os enc)) ?_
  intro W base args ds gs before hval0 hW _ hcond _ hL _ _
  have hval : ∀ (j : Nat) t v, Tryz.f5.params[j]? = some t → args[j]? = some v → Value.okWide Tryz.prog W .any base t v := hval0
  have hW' := hW
  obtain ⟨p, q, hA0, hV0, rfl, _, _⟩ := hW
  have hA : DataW.TrodAll enc Tryz.prog W 0 (fun _ => true) true Tryz.f5.params.toList args.toList ds p := hA0
  rw [Tryz.params5] at hA hval
  obtain ⟨v0, vs0, d0, ds0, p0, q0, hargs, rfl, rfl, h0, r0⟩ := trodAll_cons hA
  obtain ⟨v1, vs1, d1, ds1, p1, q1, rfl, rfl, rfl, h1, r1⟩ := trodAll_cons r0
  obtain ⟨rfl, rfl, rfl⟩ := trodAll_nil r1
  obtain rfl : args = #[v0, v1] := by cases args; simp_all
  obtain ⟨rfl, rfl⟩ := trodVars_none hV0
  have hk : Rows.uptoSmall H ([d0, d1] ++ []) = true := hcond _ rfl
  have hk2 : Rows.uptoBulkAll ([d0, d1] ++ []) ≤ 1048576 := of_decide_eq_true hk
  simp only [List.append_nil, Rows.uptoBulkAll] at hk2
  obtain ⟨seq, L, a, c, e0, a0, s0, s1, l0⟩ := K.arg_st3 (hval 0 25 v0 rfl rfl) h0
  obtain ⟨b1, rfl, rfl, rfl, w1⟩ := open_string Tryz.underlying9 (hval 1 9 v1 rfl rfl) h1
  have lt0 := trod_low h0
  obtain ⟨l1, l2⟩ := l0 (by omega)
  subst e0
  refine (K.back3_any seq a L c b1 W a0 (utf8_tabsB hL) l1 l2 s0 s1 w1).mono ?_
  rintro e W' ⟨rfl, hg⟩
  have e1 : ((Rows.OpenSpec.upto Rows.ckthreeBackSpec).at F).fn H ([d0, .lit (.string b1.data.toList)] ++ []) = { results := [.lit (.bool true)], args := [d0, .lit (.string b1.data.toList)] } := rfl
  refine ⟨_, rfl, _, _, _, [], p0 ++ ([] ++ []), [], hW', ?_, ?_, ?_, hg.frame _, fun h => by cases h⟩
  · rw [e1]; exact trodAll_mk1 (shut_bool Tryz.underlying4 _)
  · rw [e1]; exact trodAll_cons_mk (Below.trod laidOut (by kernel_rfl) (of_decide_eq_true (by kernel_rfl)) h0 hg lt0) (trodAll_cons_mk (shut_string Tryz.underlying9 w1) trodAll_mk0)
  · rw [e1]; rfl
theorem back_row : Rows.CkthreeBackUptoSaid :=
  OpenClaim.holds_of_cond 5 Tryz.f5 rfl rfl rfl rfl rfl rfl rfl ⟨rfl, rfl, rfl, rfl, rfl⟩ rfl rfl rfl rfl rfl (by kernel_rfl) Tryz.func5 (by kernel_rfl)
    (of_decide_eq_true (by kernel_rfl)) (by unfold Func.isWrapper; first | (rw [if_neg (of_decide_eq_false (by kernel_rfl))]; exact ⟨rfl, rfl⟩) | (rw [if_pos (by decide +kernel)]; kernel_rfl))
    (fun os started H enc _ F0 => by rw [OpenClaim.pre_eq_preRow]; exact lifted_back os started H enc F0)
theorem plain_back (f : FuncId) (fn : Func) (hf : Tryz.pinned.checked.prog.funcNamed "bosun/bosunlaw19.CkthreeBack" = some f) (hfn : Tryz.pinned.checked.prog.funcs[f]? = some fn) :
    false = Tryz.pinned.checked.prog.looks [] ∧ ∀ (j : Nat) t, fn.params[j]? = some t → Tryz.pinned.checked.prog.wantsStandIn t = false := by
  obtain rfl : f = 5 := Option.some.inj ((show Tryz.prog.funcNamed "bosun/bosunlaw19.CkthreeBack" = some 5 by kernel_rfl).symm.trans hf) |>.symm
  obtain rfl : fn = Tryz.f5 := (Option.some.inj (Tryz.func5.symm.trans hfn)).symm
  refine ⟨by kernel_rfl, fun j t ht => ?_⟩
  rw [Tryz.params5] at ht
  have h3 : t = 25 ∨ t = 9 := by
    rcases j with _ | _ | j
    · exact .inl (by simpa using ht.symm)
    · exact .inr (by simpa using ht.symm)
    · simp at ht
  rcases h3 with rfl | rfl
  · exact (show Tryz.prog.wantsStandIn 25 = false by kernel_rfl)
  · exact (show Tryz.prog.wantsStandIn 9 = false by kernel_rfl)
theorem ckthreeback : Rows.CkthreeBackUptoCardSaid :=
  Claim7.holds_tied_plain_at .later [] _ _ _ _ back_row (fun _ h => by cases h) (by kernel_rfl) (fun _ h => by cases h) ckthreeBackUpto_row_tie rfl ⟨rfl, rfl⟩ (by kernel_rfl) rfl plain_back (by kernel_rfl)
end Go.Proofs.YtmomlgkpdoapoaaGreatDoor
