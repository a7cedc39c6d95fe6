/-
  The bytes of a state of version 3, by the document (printed by genrbytes3.py.txt out of rbytes3.frame.txt).
-/
import Derived.Test.YtldncgelghcjeaaGreatDoorCat30
set_option linter.unusedSimpArgs false
set_option linter.unusedVariables false
namespace Go.Proofs.YtldncgelghcjeaaGreatDoor.K
open Go.ChangeShapes Go.WideShapes Go.ChangeAt Go.RowKit
set_option maxRecDepth 100000
set_option linter.unusedSimpArgs false

theorem ev_lit {T : List Value} {d : List Deferred} {t : Nat} {v : Value} (h : T[t]? = some v) : Act.eval ⟨T.toArray, d⟩ (.tmp t) = v := by
  simp [Act.eval, h]
set_option maxHeartbeats 16000000 in
theorem rbytes3_any (seq : Int) (a : Option Addr) (l : List M3) (c : Nat) (w : World) (h : Row3 w a l) (hf : ∀ p ∈ pods3 l, p.Ok) (hlen : l.length ≤ 1024) (hs0 : 0 ≤ seq) (hs1 : seq ≤ 18446744073709551615) :
    Calls Tryz.prog 15 #[st3 seq a l.length c] w fun e w' => e = .returned (.string (tx (enc3L seq (pods3 l)))) ∧ Fresh w w' := by
  have HA := Lib.hid (at_new w (.cells #[.int .u64 seq, .slice a l.length c] 30))
  have HF0 := Lib.hid ((Fresh.refl w).alloc (.cells #[.int .u64 seq, .slice a l.length c] 30))
  have HROW := Lib.hid (h.move HF0.out)
  have HFT := Lib.hid hf
  have hpl : (pods3 l).length = l.length := by simp [pods3]
  have HENC : Hid (tx (enc3L seq (pods3 l)) = (beS 8 seq.toNat ++ beS 2 l.length) ++ tx ((pods3 l).flatMap pod3L)) := by
    rw [Hid, enc3L, hpl]; apply list_ext; simp only [app_list, tx_toList, beS_tx, List.append_assoc]
  have HP8 := Lib.hid (fun W => rput_yes 8 seq W (by decide) hs0 (by omega))
  have HP2 := Lib.hid (fun W => rput_yes 2 (l.length : Int) W (by decide) (by omega) (by omega))
  have hw2 : IntKind.u64.wrap (l.length : Int) = (l.length : Int) := wrap_u64' (by omega) (by omega)
  rw [show (8 : Int).toNat = 8 from rfl] at HP8
  rw [show (2 : Int).toNat = 2 from rfl, Int.toNat_natCast] at HP2
  have y1 : (beS 8 seq.toNat).size = 8 := beS_size _ _
  have y2 : (beS 2 l.length).size = 2 := beS_size _ _
  generalize beS 8 seq.toNat = S8 at *
  generalize beS 2 l.length = S2 at *
  have ah := add_run S8 S2 _ (by omega) rfl
  have hX0 : (S8 ++ S2).size = 10 := by rw [ByteArray.size_append]; omega
  generalize S8 ++ S2 = X0 at *
  dsimp only [st3] at *
  clear h hf
  go_enter Tryz.func15, Tryz.ntmps15
  go_wp2_with (fail)
  generalize w.alloc (.cells #[.int .u64 seq, .slice a l.length c] 30) = W1 at *
  obtain ⟨z, hz⟩ : ∃ z, z = w.heap.size := ⟨_, rfl⟩
  rw [← hz] at HA ⊢
  clear hz
  have HKP : Hid (∀ W, Fresh W1 W → W.cell? ⟨z, 0, none⟩ = some (.int .u64 seq) ∧ W.cell? ⟨z, 1, none⟩ = some (.slice a l.length c)) := fun W f =>
    ⟨(st3_box (f.at HA.out)).1, (st3_box (f.at HA.out)).2.1⟩
  obtain ⟨k0, k1⟩ := HKP.out W1 (.refl _)
  have HK : Hid (Fresh W1 W1.drew) := (Fresh.refl W1).drew
  go_region_held3 (fun w' => (w'.cell? ⟨z, 0, none⟩ = some (.int .u64 seq) ∧ w'.cell? ⟨z, 1, none⟩ = some (.slice a l.length c))) (go_keep)
    (first
      | (go_at_call 50; (with_reducible refine (HP8.out _).mono ?_); rintro e W2 ⟨rfl, hf⟩; have HK := Lib.hid (HK.out.trans hf); obtain ⟨k0, k1⟩ := HKP.out _ HK.out; clear hf)
      | (go_at_call 50; (with_reducible refine (HP2.out _).mono ?_); rintro e W2 ⟨rfl, hf⟩; have HK := Lib.hid (HK.out.trans hf); obtain ⟨k0, k1⟩ := HKP.out _ HK.out; clear hf))
  go_wp2
  clear k0 k1 ah
  go_loopw [3, 4] (fun a3 a4 wr => ∃ (k : Nat), a4 = .int .i64 (k : Int) ∧ a3 = .string (acc X0 pod3L (pods3 l) k) ∧ k ≤ l.length ∧ Hid (Fresh W1 wr)) (fun _ a4 _ => l.length - (intOf a4).toNat)
  case atStart => exact ⟨0, rfl, by rw [acc_zero], Nat.zero_le _, HK.out⟩
  case round =>
  clear HK
  obtain ⟨k, rfl, rfl, hk, HF⟩ := hrel
  obtain ⟨k0, k1⟩ := HKP.out _ HF.out
  by_cases hlt : k < l.length
  case pos =>
    have hR := HROW.out.move HF.out
    obtain ⟨gb, o1, rfl, hc⟩ := m3_form hR.row hlt
    obtain ⟨c0, c1, c2, c3, c4, c5, c6⟩ := hc k hlt
    have hkp : k < (pods3 l).length := by omega
    have hpk := pods3_get hlt hkp
    have hfi := HFT.out _ (List.getElem_mem hkp)
    rw [hpk] at hfi
    have HFI := Lib.hid hfi
    have HIN := Lib.hid (hR.ins _ (List.getElem_mem hlt))
    have hX : (acc X0 pod3L (pods3 l) k).size ≤ 10 + 1024 * 2250000 := by
      have := acc_size X0 pod3L (pods3 l) k 2250000 1024 (fun p hp => pod3L_len (HFT.out p hp)) (by omega)
      rw [hX0] at this; exact this
    have HXX : Hid (acc X0 pod3L (pods3 l) (k + 1) = acc X0 pod3L (pods3 l) k ++ tx (pod3L l[k].p)) := by
      rw [Hid, acc_succ X0 pod3L hkp, hpk]
    clear hc hR hkp hpk hfi
    generalize acc X0 pod3L (pods3 l) k = X at *
    obtain ⟨X', hX'⟩ : ∃ X', X' = acc X0 pod3L (pods3 l) (k + 1) := ⟨_, rfl⟩
    rw [← hX', pod3L_head, ← tx_app] at HXX
    have HX' := Lib.hid hX'
    clear hX'
    generalize l[k] = m at *
    obtain ⟨file, name, ns, r, g, hb, ca, cc, cs⟩ := m
    have HHP := Lib.hid (head3_parts X (M3.p ⟨file, ⟨name, ns, r, g, hb, ca, cc, cs⟩⟩))
    obtain ⟨hfile, hpd⟩ := HFI.out
    have HPD := Lib.hid hpd
    have hname := hpd.name
    have hns := hpd.ns
    have hr0 := hpd.r0
    have hr1 := hpd.r1
    have hg0 := hpd.g0
    have hg1 := hpd.g1
    have hl1 := hpd.l1
    simp only [M3.p, PM.pd, List.length_map] at hfile hname hns hr0 hr1 hg0 hg1 hl1 HHP HXX HIN HPD
    clear HFI hpd
    have H1 := Lib.hid (fun W => rtext_tx file W (by omega))
    have H2 := Lib.hid (fun W => rtext_tx name W (by omega))
    have H3 := Lib.hid (fun W => rtext_tx ns W (by omega))
    have H4 := Lib.hid (fun W => rput_at 1 r W (by decide) hr0 (by omega))
    have H5 := Lib.hid (fun W => rput_at 2 g W (by decide) (by omega) (by omega))
    have H6 := Lib.hid (fun W => rflagB_any hb W)
    have H7 := Lib.hid (fun W => rput_at 1 (cs.length : Int) W (by decide) (by omega) (by omega))
    rw [show (1 : Int).toNat = 1 from rfl] at H4
    rw [show (2 : Int).toNat = 2 from rfl] at H5
    rw [show (1 : Int).toNat = 1 from rfl, Int.toNat_natCast] at H7
    have w4 := wrap_u64' hr0 (by omega)
    have w5 : IntKind.u64.wrap g = g := wrap_u64' (by omega) (by omega)
    have w7 : IntKind.u64.wrap (cs.length : Int) = (cs.length : Int) := wrap_u64' (by omega) (by omega)
    have z1 : (tx (txtL file)).size ≤ 300 := by rw [tx_size, txtL_len]; omega
    have z2 : (tx (txtL name)).size ≤ 300 := by rw [tx_size, txtL_len]; omega
    have z3 : (tx (txtL ns)).size ≤ 300 := by rw [tx_size, txtL_len]; omega
    have z4 : (beS 1 r.toNat).size = 1 := beS_size _ _
    have z5 : (beS 2 g.toNat).size = 2 := beS_size _ _
    have z6 : (beS 1 hb.toNat).size = 1 := beS_size _ _
    have z7 : (beS 1 cs.length).size = 1 := beS_size _ _
    have HHP := Lib.hid HHP.out
    dsimp only at *
    generalize tx (txtL file) = A at *
    generalize tx (txtL name) = B at *
    generalize tx (txtL ns) = C at *
    generalize beS 1 r.toNat = D at *
    generalize beS 2 g.toNat = E at *
    generalize beS 1 hb.toNat = H at *
    generalize beS 1 cs.length = G at *
    have s1 : (X ++ A).size ≤ 2304001000 := by rw [ByteArray.size_append]; omega
    have s2 : (X ++ A ++ B).size ≤ 2304002000 := by rw [ByteArray.size_append]; omega
    have s3 : (X ++ A ++ B ++ C).size ≤ 2304003000 := by rw [ByteArray.size_append]; omega
    have s4 : (X ++ A ++ B ++ C ++ D).size ≤ 2304004000 := by rw [ByteArray.size_append]; omega
    have s5 : (X ++ A ++ B ++ C ++ D ++ E).size ≤ 2304005000 := by rw [ByteArray.size_append]; omega
    have s6 : (X ++ A ++ B ++ C ++ D ++ E ++ H).size ≤ 2304006000 := by rw [ByteArray.size_append]; omega
    have s7 : (X ++ A ++ B ++ C ++ D ++ E ++ H ++ G).size ≤ 2304007000 := by rw [ByteArray.size_append]; omega
    have a1 := add_run X A _ (by omega) rfl
    have a2 := add_run (X ++ A) B _ (by omega) rfl
    have a3 := add_run (X ++ A ++ B) C _ (by omega) rfl
    have a4 := add_run (X ++ A ++ B ++ C) D _ (by omega) rfl
    have a5 := add_run (X ++ A ++ B ++ C ++ D) E _ (by omega) rfl
    have a6 := add_run (X ++ A ++ B ++ C ++ D ++ E) H _ (by omega) rfl
    have a7 := add_run (X ++ A ++ B ++ C ++ D ++ E ++ H) G _ (by omega) rfl
    generalize X ++ A ++ B ++ C ++ D ++ E ++ H ++ G = XG at *
    generalize X ++ A ++ B ++ C ++ D ++ E ++ H = XH at *
    generalize X ++ A ++ B ++ C ++ D ++ E = XE at *
    generalize X ++ A ++ B ++ C ++ D = XD at *
    generalize X ++ A ++ B ++ C = XC at *
    generalize X ++ A ++ B = XB at *
    generalize X ++ A = XA at *
    have HXX : Hid (X' = XG ++ tx ((cs.map (·.c)).flatMap ct3L)) := by
      rw [Hid, HXX.out, HHP.out]; apply list_ext; simp only [app_list, List.append_assoc]
    clear HHP
    have HP := Lib.hid (at_new wr (.cells #[.string name, .string ns, .int .i64 r, .int .i64 g, .bool hb, .slice ca cs.length cc] 46))
    have HF1 := Lib.hid ((Fresh.refl wr).alloc (.cells #[.string name, .string ns, .int .i64 r, .int .i64 g, .bool hb, .slice ca cs.length cc] 46))
    have i1 : (0 : Int) ≤ (k : Int) := by omega
    have i2 : (k : Int) < (l.length : Int) := by omega
    go_wp2_with (fail)
    all_goals try (exfalso; omega)
    generalize wr.alloc (.cells #[.string name, .string ns, .int .i64 r, .int .i64 g, .bool hb, .slice ca cs.length cc] 46) = V1 at *
    obtain ⟨y, hy⟩ : ∃ y, y = wr.heap.size := ⟨_, rfl⟩
    rw [← hy] at HP ⊢
    clear hy
    have HIN := Lib.hid (HIN.out.move HF1.out)
    have HKR : Hid (∀ W, Fresh V1 W → W.cell? ⟨z, 1, none⟩ = some (.slice (some ⟨gb, o1, none⟩) l.length c) ∧ W.cell? ⟨gb, o1 + k * 7, none⟩ = some (.string file)) := fun W f =>
      ⟨f.cell (HF1.out.cell k1), f.cell (HF1.out.cell c0)⟩
    have HKQ : Hid (∀ W, Fresh V1 W → W.cell? ⟨y, 0, none⟩ = some (.string name) ∧ W.cell? ⟨y, 1, none⟩ = some (.string ns) ∧ W.cell? ⟨y, 2, none⟩ = some (.int .i64 r) ∧ W.cell? ⟨y, 3, none⟩ = some (.int .i64 g) ∧ W.cell? ⟨y, 4, none⟩ = some (.bool hb) ∧ W.cell? ⟨y, 5, none⟩ = some (.slice ca cs.length cc)) := fun W f =>
      ⟨cell_of_at (f.at HP.out) rfl, cell_of_at (f.at HP.out) rfl, cell_of_at (f.at HP.out) rfl, cell_of_at (f.at HP.out) rfl, cell_of_at (f.at HP.out) rfl, cell_of_at (f.at HP.out) rfl⟩
    have HK6 : Hid (∀ W, Fresh V1 W → W.cell? ⟨z, 1, none⟩ = some (.slice (some ⟨gb, o1, none⟩) l.length c) ∧ W.cell? ⟨gb, o1 + k * 7, none⟩ = some (.string file) ∧ W.cell? ⟨y, 0, none⟩ = some (.string name) ∧ W.cell? ⟨y, 1, none⟩ = some (.string ns) ∧ W.cell? ⟨y, 2, none⟩ = some (.int .i64 r) ∧ W.cell? ⟨y, 3, none⟩ = some (.int .i64 g) ∧ W.cell? ⟨y, 4, none⟩ = some (.bool hb) ∧ W.cell? ⟨y, 5, none⟩ = some (.slice ca cs.length cc)) := fun W f => by
      obtain ⟨h1, h2⟩ := HKR.out W f
      exact ⟨h1, h2, HKQ.out W f⟩
    clear k0 k1 c0 c1 c2 c3 c4 c5 c6
    have HK : Hid (Fresh V1 V1.drew) := (Fresh.refl V1).drew
    rename_i KK hKK
    refine flowM_region [some (Value.string X), some (Value.pointer (some ⟨z, 1, none⟩)), some (Value.slice (some ⟨gb, o1, none⟩) l.length c), some (Value.int .i64 (k : Int)), some (Value.pointer (some ⟨gb, o1 + k * 7, none⟩)), some (Value.pointer (some ⟨gb, o1 + k * 7, none⟩)), some (Value.string file), some (Value.string A), some (Value.string XA), some (Value.pointer (some ⟨y, 0, none⟩)), some (Value.string name), some (Value.string B), some (Value.string XB), some (Value.pointer (some ⟨y, 1, none⟩)), some (Value.string ns), some (Value.string C), some (Value.string XC), some (Value.pointer (some ⟨y, 2, none⟩)), some (Value.int .i64 r), some (Value.int .u64 r), some (Value.string D), some (Value.string XD), some (Value.pointer (some ⟨y, 3, none⟩)), some (Value.int .i64 g), some (Value.int .u64 g), some (Value.string E), some (Value.string XE), some (Value.pointer (some ⟨y, 4, none⟩)), some (Value.bool hb), some (Value.string H), some (Value.string XH), some (Value.pointer (some ⟨y, 5, none⟩)), some (Value.slice ca cs.length cc), some (Value.int .i64 (cs.length : Int)), some (Value.int .u64 (cs.length : Int)), some (Value.string G), some (Value.string XG), some (Value.string XG)] (fun _ _ _ => False) rfl (n := 187) rfl (by decide +kernel) (fun _ _ _ _ h _ => h) ⟨?_, ?_, ?_, ?_, ?_, ?_, ?_, ?_, ?_, ?_, ?_, ?_, ?_, ?_, ?_, ?_, ?_, ?_, ?_, ?_, ?_, ?_, ?_, ?_, ?_, ?_, ?_, ?_, ?_, ?_, ?_, ?_, ?_, ?_, ?_, ?_, ?_, ?_, trivial⟩ ?_
    · intro a W hf hin hst
      have g3 := ev_get (show a.eval (.tmp 3) = Value.string X from hst 3 (by decide +kernel))
      refine .inl ⟨Value.string X, W, ?_, .refl _, rfl⟩
      simp [execOp, g3, go_sem]
    · intro a W hf hin hst
      have g1 := ev_get (show a.eval (.tmp 1) = Value.pointer (some ⟨z, 0, none⟩) from hst 1 (by decide +kernel))
      refine .inl ⟨Value.pointer (some ⟨z, 1, none⟩), W, ?_, .refl _, rfl⟩
      simp [execOp, g1, go_sem]
    · intro a W hf hin hst
      obtain ⟨k1, c0, m0, m1, m2, m3, m4, m5⟩ := HK6.out W (HK.out.trans hf)
      have g34 := ev_get (show a.eval (.tmp 34) = Value.pointer (some ⟨z, 1, none⟩) from hin 1 34 (by decide +kernel) (by decide +kernel))
      refine .inl ⟨Value.slice (some ⟨gb, o1, none⟩) l.length c, W, ?_, .refl _, rfl⟩
      simp [execOp, g34, go_sem, k1, c0, m0, m1, m2, m3, m4, m5]
    · intro a W hf hin hst
      have g4 := ev_get (show a.eval (.tmp 4) = Value.int .i64 (k : Int) from hst 4 (by decide +kernel))
      refine .inl ⟨Value.int .i64 (k : Int), W, ?_, .refl _, rfl⟩
      simp [execOp, g4, go_sem]
    · intro a W hf hin hst
      have g35 := ev_get (show a.eval (.tmp 35) = Value.slice (some ⟨gb, o1, none⟩) l.length c from hin 2 35 (by decide +kernel) (by decide +kernel))
      have g36 := ev_get (show a.eval (.tmp 36) = Value.int .i64 (k : Int) from hin 3 36 (by decide +kernel) (by decide +kernel))
      refine .inl ⟨Value.pointer (some ⟨gb, o1 + k * 7, none⟩), W, ?_, .refl _, rfl⟩
      simp [execOp, g35, g36, go_sem, i1, i2]
    · intro a W hf hin hst
      have g37 := ev_get (show a.eval (.tmp 37) = Value.pointer (some ⟨gb, o1 + k * 7, none⟩) from hin 4 37 (by decide +kernel) (by decide +kernel))
      refine .inl ⟨Value.pointer (some ⟨gb, o1 + k * 7, none⟩), W, ?_, .refl _, rfl⟩
      simp [execOp, g37, go_sem]
    · intro a W hf hin hst
      obtain ⟨k1, c0, m0, m1, m2, m3, m4, m5⟩ := HK6.out W (HK.out.trans hf)
      have g38 := ev_get (show a.eval (.tmp 38) = Value.pointer (some ⟨gb, o1 + k * 7, none⟩) from hin 5 38 (by decide +kernel) (by decide +kernel))
      refine .inl ⟨Value.string file, W, ?_, .refl _, rfl⟩
      simp [execOp, g38, go_sem, k1, c0, m0, m1, m2, m3, m4, m5]
    · intro a W hf hin hst
      have g39 := ev_get (show a.eval (.tmp 39) = Value.string file from hin 6 39 (by decide +kernel) (by decide +kernel))
      exact .inr ⟨51, #[Value.string file], by simp [execOp, g39, go_sem], (H1.out W).mono (fun e V h => ⟨_, h.1, h.2, rfl⟩)⟩
    · intro a W hf hin hst
      have g33 := ev_get (show a.eval (.tmp 33) = Value.string X from hin 0 33 (by decide +kernel) (by decide +kernel))
      have g40 := ev_get (show a.eval (.tmp 40) = Value.string A from hin 7 40 (by decide +kernel) (by decide +kernel))
      refine .inl ⟨Value.string XA, W, ?_, .refl _, rfl⟩
      simp [execOp, g33, g40, go_sem, a1]
    · intro a W hf hin hst
      have g5 := ev_get (show a.eval (.tmp 5) = Value.pointer (some ⟨y, 0, none⟩) from hst 5 (by decide +kernel))
      refine .inl ⟨Value.pointer (some ⟨y, 0, none⟩), W, ?_, .refl _, rfl⟩
      simp [execOp, g5, go_sem]
    · intro a W hf hin hst
      obtain ⟨k1, c0, m0, m1, m2, m3, m4, m5⟩ := HK6.out W (HK.out.trans hf)
      have g42 := ev_get (show a.eval (.tmp 42) = Value.pointer (some ⟨y, 0, none⟩) from hin 9 42 (by decide +kernel) (by decide +kernel))
      refine .inl ⟨Value.string name, W, ?_, .refl _, rfl⟩
      simp [execOp, g42, go_sem, k1, c0, m0, m1, m2, m3, m4, m5]
    · intro a W hf hin hst
      have g43 := ev_get (show a.eval (.tmp 43) = Value.string name from hin 10 43 (by decide +kernel) (by decide +kernel))
      exact .inr ⟨51, #[Value.string name], by simp [execOp, g43, go_sem], (H2.out W).mono (fun e V h => ⟨_, h.1, h.2, rfl⟩)⟩
    · intro a W hf hin hst
      have g41 := ev_get (show a.eval (.tmp 41) = Value.string XA from hin 8 41 (by decide +kernel) (by decide +kernel))
      have g44 := ev_get (show a.eval (.tmp 44) = Value.string B from hin 11 44 (by decide +kernel) (by decide +kernel))
      refine .inl ⟨Value.string XB, W, ?_, .refl _, rfl⟩
      simp [execOp, g41, g44, go_sem, a2]
    · intro a W hf hin hst
      have g5 := ev_get (show a.eval (.tmp 5) = Value.pointer (some ⟨y, 0, none⟩) from hst 5 (by decide +kernel))
      refine .inl ⟨Value.pointer (some ⟨y, 1, none⟩), W, ?_, .refl _, rfl⟩
      simp [execOp, g5, go_sem]
    · intro a W hf hin hst
      obtain ⟨k1, c0, m0, m1, m2, m3, m4, m5⟩ := HK6.out W (HK.out.trans hf)
      have g46 := ev_get (show a.eval (.tmp 46) = Value.pointer (some ⟨y, 1, none⟩) from hin 13 46 (by decide +kernel) (by decide +kernel))
      refine .inl ⟨Value.string ns, W, ?_, .refl _, rfl⟩
      simp [execOp, g46, go_sem, k1, c0, m0, m1, m2, m3, m4, m5]
    · intro a W hf hin hst
      have g47 := ev_get (show a.eval (.tmp 47) = Value.string ns from hin 14 47 (by decide +kernel) (by decide +kernel))
      exact .inr ⟨51, #[Value.string ns], by simp [execOp, g47, go_sem], (H3.out W).mono (fun e V h => ⟨_, h.1, h.2, rfl⟩)⟩
    · intro a W hf hin hst
      have g45 := ev_get (show a.eval (.tmp 45) = Value.string XB from hin 12 45 (by decide +kernel) (by decide +kernel))
      have g48 := ev_get (show a.eval (.tmp 48) = Value.string C from hin 15 48 (by decide +kernel) (by decide +kernel))
      refine .inl ⟨Value.string XC, W, ?_, .refl _, rfl⟩
      simp [execOp, g45, g48, go_sem, a3]
    · intro a W hf hin hst
      have g5 := ev_get (show a.eval (.tmp 5) = Value.pointer (some ⟨y, 0, none⟩) from hst 5 (by decide +kernel))
      refine .inl ⟨Value.pointer (some ⟨y, 2, none⟩), W, ?_, .refl _, rfl⟩
      simp [execOp, g5, go_sem]
    · intro a W hf hin hst
      obtain ⟨k1, c0, m0, m1, m2, m3, m4, m5⟩ := HK6.out W (HK.out.trans hf)
      have g50 := ev_get (show a.eval (.tmp 50) = Value.pointer (some ⟨y, 2, none⟩) from hin 17 50 (by decide +kernel) (by decide +kernel))
      refine .inl ⟨Value.int .i64 r, W, ?_, .refl _, rfl⟩
      simp [execOp, g50, go_sem, k1, c0, m0, m1, m2, m3, m4, m5]
    · intro a W hf hin hst
      have g51 := ev_get (show a.eval (.tmp 51) = Value.int .i64 r from hin 18 51 (by decide +kernel) (by decide +kernel))
      refine .inl ⟨Value.int .u64 r, W, ?_, .refl _, rfl⟩
      simp [execOp, g51, go_sem, w4]
    · intro a W hf hin hst
      have g52 := ev_get (show a.eval (.tmp 52) = Value.int .u64 r from hin 19 52 (by decide +kernel) (by decide +kernel))
      exact .inr ⟨50, #[.int .i64 1, .int .u64 r], by simp [execOp, g52, go_sem], (H4.out W).mono (fun e V h => ⟨_, h.1, h.2, rfl⟩)⟩
    · intro a W hf hin hst
      have g49 := ev_get (show a.eval (.tmp 49) = Value.string XC from hin 16 49 (by decide +kernel) (by decide +kernel))
      have g53 := ev_get (show a.eval (.tmp 53) = Value.string D from hin 20 53 (by decide +kernel) (by decide +kernel))
      refine .inl ⟨Value.string XD, W, ?_, .refl _, rfl⟩
      simp [execOp, g49, g53, go_sem, a4]
    · intro a W hf hin hst
      have g5 := ev_get (show a.eval (.tmp 5) = Value.pointer (some ⟨y, 0, none⟩) from hst 5 (by decide +kernel))
      refine .inl ⟨Value.pointer (some ⟨y, 3, none⟩), W, ?_, .refl _, rfl⟩
      simp [execOp, g5, go_sem]
    · intro a W hf hin hst
      obtain ⟨k1, c0, m0, m1, m2, m3, m4, m5⟩ := HK6.out W (HK.out.trans hf)
      have g55 := ev_get (show a.eval (.tmp 55) = Value.pointer (some ⟨y, 3, none⟩) from hin 22 55 (by decide +kernel) (by decide +kernel))
      refine .inl ⟨Value.int .i64 g, W, ?_, .refl _, rfl⟩
      simp [execOp, g55, go_sem, k1, c0, m0, m1, m2, m3, m4, m5]
    · intro a W hf hin hst
      have g56 := ev_get (show a.eval (.tmp 56) = Value.int .i64 g from hin 23 56 (by decide +kernel) (by decide +kernel))
      refine .inl ⟨Value.int .u64 g, W, ?_, .refl _, rfl⟩
      simp [execOp, g56, go_sem, w5]
    · intro a W hf hin hst
      have g57 := ev_get (show a.eval (.tmp 57) = Value.int .u64 g from hin 24 57 (by decide +kernel) (by decide +kernel))
      exact .inr ⟨50, #[.int .i64 2, .int .u64 g], by simp [execOp, g57, go_sem], (H5.out W).mono (fun e V h => ⟨_, h.1, h.2, rfl⟩)⟩
    · intro a W hf hin hst
      have g54 := ev_get (show a.eval (.tmp 54) = Value.string XD from hin 21 54 (by decide +kernel) (by decide +kernel))
      have g58 := ev_get (show a.eval (.tmp 58) = Value.string E from hin 25 58 (by decide +kernel) (by decide +kernel))
      refine .inl ⟨Value.string XE, W, ?_, .refl _, rfl⟩
      simp [execOp, g54, g58, go_sem, a5]
    · intro a W hf hin hst
      have g5 := ev_get (show a.eval (.tmp 5) = Value.pointer (some ⟨y, 0, none⟩) from hst 5 (by decide +kernel))
      refine .inl ⟨Value.pointer (some ⟨y, 4, none⟩), W, ?_, .refl _, rfl⟩
      simp [execOp, g5, go_sem]
    · intro a W hf hin hst
      obtain ⟨k1, c0, m0, m1, m2, m3, m4, m5⟩ := HK6.out W (HK.out.trans hf)
      have g60 := ev_get (show a.eval (.tmp 60) = Value.pointer (some ⟨y, 4, none⟩) from hin 27 60 (by decide +kernel) (by decide +kernel))
      refine .inl ⟨Value.bool hb, W, ?_, .refl _, rfl⟩
      simp [execOp, g60, go_sem, k1, c0, m0, m1, m2, m3, m4, m5]
    · intro a W hf hin hst
      have g61 := ev_get (show a.eval (.tmp 61) = Value.bool hb from hin 28 61 (by decide +kernel) (by decide +kernel))
      exact .inr ⟨52, #[.bool hb], by simp [execOp, g61, go_sem], (H6.out W).mono (fun e V h => ⟨_, h.1, h.2, rfl⟩)⟩
    · intro a W hf hin hst
      have g59 := ev_get (show a.eval (.tmp 59) = Value.string XE from hin 26 59 (by decide +kernel) (by decide +kernel))
      have g62 := ev_get (show a.eval (.tmp 62) = Value.string H from hin 29 62 (by decide +kernel) (by decide +kernel))
      refine .inl ⟨Value.string XH, W, ?_, .refl _, rfl⟩
      simp [execOp, g59, g62, go_sem, a6]
    · intro a W hf hin hst
      have g5 := ev_get (show a.eval (.tmp 5) = Value.pointer (some ⟨y, 0, none⟩) from hst 5 (by decide +kernel))
      refine .inl ⟨Value.pointer (some ⟨y, 5, none⟩), W, ?_, .refl _, rfl⟩
      simp [execOp, g5, go_sem]
    · intro a W hf hin hst
      obtain ⟨k1, c0, m0, m1, m2, m3, m4, m5⟩ := HK6.out W (HK.out.trans hf)
      have g64 := ev_get (show a.eval (.tmp 64) = Value.pointer (some ⟨y, 5, none⟩) from hin 31 64 (by decide +kernel) (by decide +kernel))
      refine .inl ⟨Value.slice ca cs.length cc, W, ?_, .refl _, rfl⟩
      simp [execOp, g64, go_sem, k1, c0, m0, m1, m2, m3, m4, m5]
    · intro a W hf hin hst
      have g65 := ev_get (show a.eval (.tmp 65) = Value.slice ca cs.length cc from hin 32 65 (by decide +kernel) (by decide +kernel))
      refine .inl ⟨Value.int .i64 (cs.length : Int), W, ?_, .refl _, rfl⟩
      simp [execOp, g65, go_sem]
    · intro a W hf hin hst
      have g66 := ev_get (show a.eval (.tmp 66) = Value.int .i64 (cs.length : Int) from hin 33 66 (by decide +kernel) (by decide +kernel))
      refine .inl ⟨Value.int .u64 (cs.length : Int), W, ?_, .refl _, rfl⟩
      simp [execOp, g66, go_sem, w7]
    · intro a W hf hin hst
      have g67 := ev_get (show a.eval (.tmp 67) = Value.int .u64 (cs.length : Int) from hin 34 67 (by decide +kernel) (by decide +kernel))
      exact .inr ⟨50, #[.int .i64 1, .int .u64 (cs.length : Int)], by simp [execOp, g67, go_sem], (H7.out W).mono (fun e V h => ⟨_, h.1, h.2, rfl⟩)⟩
    · intro a W hf hin hst
      have g63 := ev_get (show a.eval (.tmp 63) = Value.string XH from hin 30 63 (by decide +kernel) (by decide +kernel))
      have g68 := ev_get (show a.eval (.tmp 68) = Value.string G from hin 35 68 (by decide +kernel) (by decide +kernel))
      refine .inl ⟨Value.string XG, W, ?_, .refl _, rfl⟩
      simp [execOp, g63, g68, go_sem, a7]
    · intro a W hf hin hst
      have g69 := ev_get (show a.eval (.tmp 69) = Value.string XG from hin 36 69 (by decide +kernel) (by decide +kernel))
      refine .inl ⟨Value.string XG, W, ?_, .refl _, rfl⟩
      simp [execOp, g69, go_sem]
    intro a W hsz hdf hf hkp hr
    have HK := Lib.hid (HK.out.trans hf)
    have ha := act_lit (n := 187) hsz hdf
    have k0 := (hkp 0 (by decide +kernel)).trans (ev_lit rfl)
    have k1 := (hkp 1 (by decide +kernel)).trans (ev_lit rfl)
    have k2 := (hkp 2 (by decide +kernel)).trans (ev_lit rfl)
    have k4 := (hkp 4 (by decide +kernel)).trans (ev_lit rfl)
    have k5 := (hkp 5 (by decide +kernel)).trans (ev_lit rfl)
    have k11 := (hkp 11 (by decide +kernel)).trans (ev_lit rfl)
    have k12 := (hkp 12 (by decide +kernel)).trans (ev_lit rfl)
    have k13 := (hkp 13 (by decide +kernel)).trans (ev_lit rfl)
    have k14 := (hkp 14 (by decide +kernel)).trans (ev_lit rfl)
    have k15 := (hkp 15 (by decide +kernel)).trans (ev_lit rfl)
    have k16 := (hkp 16 (by decide +kernel)).trans (ev_lit rfl)
    have k17 := (hkp 17 (by decide +kernel)).trans (ev_lit rfl)
    have k18 := (hkp 18 (by decide +kernel)).trans (ev_lit rfl)
    have k19 := (hkp 19 (by decide +kernel)).trans (ev_lit rfl)
    have k186 := (hkp 186 (by decide +kernel)).trans (ev_lit rfl)
    have k3 : a.eval (.tmp 3) = Value.string XG := hr 37 3 (by decide +kernel)
    simp only [List.range, List.range.loop, List.map_cons, List.map_nil, k0, k1, k2, k4, k5, k11, k12, k13, k14, k15, k16, k17, k18, k19, k186, k3] at ha
    clear k0 k1 k2 k4 k5 k11 k12 k13 k14 k15 k16 k17 k18 k19 k186 k3 hsz hdf hkp hr hf
    generalize a.eval (.tmp 6) = v6 at ha
    generalize a.eval (.tmp 7) = v7 at ha
    generalize a.eval (.tmp 8) = v8 at ha
    generalize a.eval (.tmp 9) = v9 at ha
    generalize a.eval (.tmp 10) = v10 at ha
    generalize a.eval (.tmp 20) = v20 at ha
    generalize a.eval (.tmp 21) = v21 at ha
    generalize a.eval (.tmp 22) = v22 at ha
    generalize a.eval (.tmp 23) = v23 at ha
    generalize a.eval (.tmp 24) = v24 at ha
    generalize a.eval (.tmp 25) = v25 at ha
    generalize a.eval (.tmp 26) = v26 at ha
    generalize a.eval (.tmp 27) = v27 at ha
    generalize a.eval (.tmp 28) = v28 at ha
    generalize a.eval (.tmp 29) = v29 at ha
    generalize a.eval (.tmp 30) = v30 at ha
    generalize a.eval (.tmp 31) = v31 at ha
    generalize a.eval (.tmp 32) = v32 at ha
    generalize a.eval (.tmp 33) = v33 at ha
    generalize a.eval (.tmp 34) = v34 at ha
    generalize a.eval (.tmp 35) = v35 at ha
    generalize a.eval (.tmp 36) = v36 at ha
    generalize a.eval (.tmp 37) = v37 at ha
    generalize a.eval (.tmp 38) = v38 at ha
    generalize a.eval (.tmp 39) = v39 at ha
    generalize a.eval (.tmp 40) = v40 at ha
    generalize a.eval (.tmp 41) = v41 at ha
    generalize a.eval (.tmp 42) = v42 at ha
    generalize a.eval (.tmp 43) = v43 at ha
    generalize a.eval (.tmp 44) = v44 at ha
    generalize a.eval (.tmp 45) = v45 at ha
    generalize a.eval (.tmp 46) = v46 at ha
    generalize a.eval (.tmp 47) = v47 at ha
    generalize a.eval (.tmp 48) = v48 at ha
    generalize a.eval (.tmp 49) = v49 at ha
    generalize a.eval (.tmp 50) = v50 at ha
    generalize a.eval (.tmp 51) = v51 at ha
    generalize a.eval (.tmp 52) = v52 at ha
    generalize a.eval (.tmp 53) = v53 at ha
    generalize a.eval (.tmp 54) = v54 at ha
    generalize a.eval (.tmp 55) = v55 at ha
    generalize a.eval (.tmp 56) = v56 at ha
    generalize a.eval (.tmp 57) = v57 at ha
    generalize a.eval (.tmp 58) = v58 at ha
    generalize a.eval (.tmp 59) = v59 at ha
    generalize a.eval (.tmp 60) = v60 at ha
    generalize a.eval (.tmp 61) = v61 at ha
    generalize a.eval (.tmp 62) = v62 at ha
    generalize a.eval (.tmp 63) = v63 at ha
    generalize a.eval (.tmp 64) = v64 at ha
    generalize a.eval (.tmp 65) = v65 at ha
    generalize a.eval (.tmp 66) = v66 at ha
    generalize a.eval (.tmp 67) = v67 at ha
    generalize a.eval (.tmp 68) = v68 at ha
    generalize a.eval (.tmp 69) = v69 at ha
    generalize a.eval (.tmp 70) = v70 at ha
    generalize a.eval (.tmp 71) = v71 at ha
    generalize a.eval (.tmp 72) = v72 at ha
    generalize a.eval (.tmp 73) = v73 at ha
    generalize a.eval (.tmp 74) = v74 at ha
    generalize a.eval (.tmp 75) = v75 at ha
    generalize a.eval (.tmp 76) = v76 at ha
    generalize a.eval (.tmp 77) = v77 at ha
    generalize a.eval (.tmp 78) = v78 at ha
    generalize a.eval (.tmp 79) = v79 at ha
    generalize a.eval (.tmp 80) = v80 at ha
    generalize a.eval (.tmp 81) = v81 at ha
    generalize a.eval (.tmp 82) = v82 at ha
    generalize a.eval (.tmp 83) = v83 at ha
    generalize a.eval (.tmp 84) = v84 at ha
    generalize a.eval (.tmp 85) = v85 at ha
    generalize a.eval (.tmp 86) = v86 at ha
    generalize a.eval (.tmp 87) = v87 at ha
    generalize a.eval (.tmp 88) = v88 at ha
    generalize a.eval (.tmp 89) = v89 at ha
    generalize a.eval (.tmp 90) = v90 at ha
    generalize a.eval (.tmp 91) = v91 at ha
    generalize a.eval (.tmp 92) = v92 at ha
    generalize a.eval (.tmp 93) = v93 at ha
    generalize a.eval (.tmp 94) = v94 at ha
    generalize a.eval (.tmp 95) = v95 at ha
    generalize a.eval (.tmp 96) = v96 at ha
    generalize a.eval (.tmp 97) = v97 at ha
    generalize a.eval (.tmp 98) = v98 at ha
    generalize a.eval (.tmp 99) = v99 at ha
    generalize a.eval (.tmp 100) = v100 at ha
    generalize a.eval (.tmp 101) = v101 at ha
    generalize a.eval (.tmp 102) = v102 at ha
    generalize a.eval (.tmp 103) = v103 at ha
    generalize a.eval (.tmp 104) = v104 at ha
    generalize a.eval (.tmp 105) = v105 at ha
    generalize a.eval (.tmp 106) = v106 at ha
    generalize a.eval (.tmp 107) = v107 at ha
    generalize a.eval (.tmp 108) = v108 at ha
    generalize a.eval (.tmp 109) = v109 at ha
    generalize a.eval (.tmp 110) = v110 at ha
    generalize a.eval (.tmp 111) = v111 at ha
    generalize a.eval (.tmp 112) = v112 at ha
    generalize a.eval (.tmp 113) = v113 at ha
    generalize a.eval (.tmp 114) = v114 at ha
    generalize a.eval (.tmp 115) = v115 at ha
    generalize a.eval (.tmp 116) = v116 at ha
    generalize a.eval (.tmp 117) = v117 at ha
    generalize a.eval (.tmp 118) = v118 at ha
    generalize a.eval (.tmp 119) = v119 at ha
    generalize a.eval (.tmp 120) = v120 at ha
    generalize a.eval (.tmp 121) = v121 at ha
    generalize a.eval (.tmp 122) = v122 at ha
    generalize a.eval (.tmp 123) = v123 at ha
    generalize a.eval (.tmp 124) = v124 at ha
    generalize a.eval (.tmp 125) = v125 at ha
    generalize a.eval (.tmp 126) = v126 at ha
    generalize a.eval (.tmp 127) = v127 at ha
    generalize a.eval (.tmp 128) = v128 at ha
    generalize a.eval (.tmp 129) = v129 at ha
    generalize a.eval (.tmp 130) = v130 at ha
    generalize a.eval (.tmp 131) = v131 at ha
    generalize a.eval (.tmp 132) = v132 at ha
    generalize a.eval (.tmp 133) = v133 at ha
    generalize a.eval (.tmp 134) = v134 at ha
    generalize a.eval (.tmp 135) = v135 at ha
    generalize a.eval (.tmp 136) = v136 at ha
    generalize a.eval (.tmp 137) = v137 at ha
    generalize a.eval (.tmp 138) = v138 at ha
    generalize a.eval (.tmp 139) = v139 at ha
    generalize a.eval (.tmp 140) = v140 at ha
    generalize a.eval (.tmp 141) = v141 at ha
    generalize a.eval (.tmp 142) = v142 at ha
    generalize a.eval (.tmp 143) = v143 at ha
    generalize a.eval (.tmp 144) = v144 at ha
    generalize a.eval (.tmp 145) = v145 at ha
    generalize a.eval (.tmp 146) = v146 at ha
    generalize a.eval (.tmp 147) = v147 at ha
    generalize a.eval (.tmp 148) = v148 at ha
    generalize a.eval (.tmp 149) = v149 at ha
    generalize a.eval (.tmp 150) = v150 at ha
    generalize a.eval (.tmp 151) = v151 at ha
    generalize a.eval (.tmp 152) = v152 at ha
    generalize a.eval (.tmp 153) = v153 at ha
    generalize a.eval (.tmp 154) = v154 at ha
    generalize a.eval (.tmp 155) = v155 at ha
    generalize a.eval (.tmp 156) = v156 at ha
    generalize a.eval (.tmp 157) = v157 at ha
    generalize a.eval (.tmp 158) = v158 at ha
    generalize a.eval (.tmp 159) = v159 at ha
    generalize a.eval (.tmp 160) = v160 at ha
    generalize a.eval (.tmp 161) = v161 at ha
    generalize a.eval (.tmp 162) = v162 at ha
    generalize a.eval (.tmp 163) = v163 at ha
    generalize a.eval (.tmp 164) = v164 at ha
    generalize a.eval (.tmp 165) = v165 at ha
    generalize a.eval (.tmp 166) = v166 at ha
    generalize a.eval (.tmp 167) = v167 at ha
    generalize a.eval (.tmp 168) = v168 at ha
    generalize a.eval (.tmp 169) = v169 at ha
    generalize a.eval (.tmp 170) = v170 at ha
    generalize a.eval (.tmp 171) = v171 at ha
    generalize a.eval (.tmp 172) = v172 at ha
    generalize a.eval (.tmp 173) = v173 at ha
    generalize a.eval (.tmp 174) = v174 at ha
    generalize a.eval (.tmp 175) = v175 at ha
    generalize a.eval (.tmp 176) = v176 at ha
    generalize a.eval (.tmp 177) = v177 at ha
    generalize a.eval (.tmp 178) = v178 at ha
    generalize a.eval (.tmp 179) = v179 at ha
    generalize a.eval (.tmp 180) = v180 at ha
    generalize a.eval (.tmp 181) = v181 at ha
    generalize a.eval (.tmp 182) = v182 at ha
    generalize a.eval (.tmp 183) = v183 at ha
    generalize a.eval (.tmp 184) = v184 at ha
    generalize a.eval (.tmp 185) = v185 at ha
    subst ha
    refine hKK _ W ?_
    clear a1 a2 a3 a4 a5 a6 a7 w4 w5 w7 i1 i2 H1 H2 H3 H4 H5 H6 H7 HK6 HKR
    have HIN := Lib.hid (HIN.out.move HK.out)
    have HPDC := Lib.hid HPD.out.cs
    have HKQ : Hid (∀ V, Fresh W V → V.cell? ⟨y, 0, none⟩ = some (.string name) ∧ V.cell? ⟨y, 1, none⟩ = some (.string ns) ∧ V.cell? ⟨y, 2, none⟩ = some (.int .i64 r) ∧ V.cell? ⟨y, 3, none⟩ = some (.int .i64 g) ∧ V.cell? ⟨y, 4, none⟩ = some (.bool hb) ∧ V.cell? ⟨y, 5, none⟩ = some (.slice ca cs.length cc)) := fun V f => HKQ.out V (HK.out.trans f)
    have HFW := Lib.hid ((HF.out.trans HF1.out).trans HK.out)
    have HXC : Hid (X' = acc XG ct3L (cs.map (·.c)) cs.length) := by
      have := acc_full XG ct3L (cs.map (·.c))
      rw [List.length_map] at this
      rw [Hid, HXX.out, this]
    have hlc : cs.length ≤ 16 := hl1
    have hxg : XG.size ≤ 2304007000 := s7
    clear HXX HPD hKK HK HF1 HF HP s1 s2 s3 s4 s5 s6 s7 z1 z2 z3 z4 z5 z6 z7 hr0 hr1 hg0 hg1 hl1 hX hfile hname hns
    go_wp2
    go_loopw [3, 6] (fun a3 a6 wq => ∃ (i : Nat), a6 = .int .i64 (i : Int) ∧ a3 = .string (acc XG ct3L (cs.map (·.c)) i) ∧ i ≤ cs.length ∧ Hid (Fresh W wq)) (fun _ a6 _ => cs.length - (intOf a6).toNat)
    case atStart => exact ⟨0, rfl, by rw [acc_zero], Nat.zero_le _, .refl _⟩
    case round =>
    obtain ⟨i, rfl, rfl, hi, HFi⟩ := hrel
    obtain ⟨m0, m1, m2, m3, m4, m5⟩ := HKQ.out _ HFi.out
    by_cases hil : i < cs.length
    case pos =>
      obtain ⟨gc, oc, rfl, hcc⟩ := crow_form (HIN.out.row.move HFi.out) hil
      obtain ⟨c0, c1, c2, c3, c4, c5, c6⟩ := hcc i hil
      have hil' : i < (cs.map (·.c)).length := by simpa using hil
      have hOK : CtOk cs[i].c := HPDC.out _ (List.mem_map_of_mem (List.getElem_mem hil))
      have HMI : Hid (cs[i].In wr) := (HIN.out.ins _ (List.getElem_mem hil)).move HFi.out
      have HYY : Hid (acc XG ct3L (cs.map (·.c)) (i + 1) = acc XG ct3L (cs.map (·.c)) i ++ tx (ct3L cs[i].c)) := by
        have := acc_succ XG ct3L hil'
        rw [List.getElem_map] at this
        exact this
      have hY : (acc XG ct3L (cs.map (·.c)) i).size ≤ XG.size + 16 * 140000 := acc_size XG ct3L (cs.map (·.c)) i 140000 16 (fun x hx => by
        obtain ⟨m, hm, rfl⟩ := List.mem_map.1 hx
        exact ct3L_len (HPDC.out _ (List.mem_map_of_mem hm))) (by simpa using hlc)
      clear hcc hil'
      generalize acc XG ct3L (cs.map (·.c)) i = Y at *
      obtain ⟨Y', hY'⟩ : ∃ Y', Y' = acc XG ct3L (cs.map (·.c)) (i + 1) := ⟨_, rfl⟩
      rw [← hY'] at HYY
      have HY' := Lib.hid hY'
      clear hY'
      generalize cs[i] = m at *
      have d1 := hOK.name; have d2 := hOK.image; have d3 := hOK.lc; have d4 := hOK.lp; have d5 := hOK.le
      have d6 := hOK.cpu0; have d7 := hOK.cpu1; have d8 := hOK.mem0; have d9 := hOK.mem1
      have HCP := Lib.hid (ct3_parts Y m.c)
      have HOK := Lib.hid hOK
      clear hOK
      have HQB := Lib.hid (at_new wr (.cells #[.string m.c.name, .string m.c.image, .slice m.ca m.c.cmd.length m.cc, .slice m.pa m.c.ports.length m.pc, .int .i64 m.c.cpu, .int .i64 m.c.mem, .slice m.ea m.c.env.length m.ec] 115))
      have HF2 := Lib.hid ((Fresh.refl wr).alloc (.cells #[.string m.c.name, .string m.c.image, .slice m.ca m.c.cmd.length m.cc, .slice m.pa m.c.ports.length m.pc, .int .i64 m.c.cpu, .int .i64 m.c.mem, .slice m.ea m.c.env.length m.ec] 115))
      have J1 := Lib.hid (fun W => rtext_tx m.c.name W (by omega))
      have J2 := Lib.hid (fun W => rtext_tx m.c.image W (by omega))
      have J3 := Lib.hid (fun W => rput_at 1 (m.c.cmd.length : Int) W (by decide) (by omega) (by omega))
      rw [show (1 : Int).toNat = 1 from rfl, Int.toNat_natCast] at J3
      have w3 : IntKind.u64.wrap (m.c.cmd.length : Int) = (m.c.cmd.length : Int) := wrap_u64' (by omega) (by omega)
      have z1 : (tx (txtL m.c.name)).size ≤ 300 := by rw [tx_size, txtL_len]; omega
      have z2 : (tx (txtL m.c.image)).size ≤ 300 := by rw [tx_size, txtL_len]; omega
      have z3 : (beS 1 m.c.cmd.length).size = 1 := beS_size _ _
      generalize tx (txtL m.c.name) = A1 at *
      generalize tx (txtL m.c.image) = A2 at *
      generalize beS 1 m.c.cmd.length = A3 at *
      have s1 : (Y ++ A1).size ≤ 2304101000 + 16 * 140000 := by rw [ByteArray.size_append]; omega
      have s2 : (Y ++ A1 ++ A2).size ≤ 2304102000 + 16 * 140000 := by rw [ByteArray.size_append]; omega
      have s3 : (Y ++ A1 ++ A2 ++ A3).size ≤ 2304103000 + 16 * 140000 := by rw [ByteArray.size_append]; omega
      have a1 := add_run Y A1 _ (by omega) rfl
      have a2 := add_run (Y ++ A1) A2 _ (by omega) rfl
      have a3 := add_run (Y ++ A1 ++ A2) A3 _ (by omega) rfl
      generalize Y ++ A1 ++ A2 ++ A3 = Y1 at *
      generalize Y ++ A1 ++ A2 = YB at *
      generalize Y ++ A1 = YA at *
      go_wp2_with (fail)
      all_goals try (exfalso; omega)
      generalize wr.alloc (.cells #[.string m.c.name, .string m.c.image, .slice m.ca m.c.cmd.length m.cc, .slice m.pa m.c.ports.length m.pc, .int .i64 m.c.cpu, .int .i64 m.c.mem, .slice m.ea m.c.env.length m.ec] 115) = V2 at *
      obtain ⟨q, hq⟩ : ∃ q, q = wr.heap.size := ⟨_, rfl⟩
      rw [← hq] at HQB ⊢
      clear hq
      have HMI := Lib.hid (HMI.out.move HF2.out)
      have HQ : Hid (∀ W, Fresh V2 W → W.cell? ⟨q, 0, none⟩ = some (.string m.c.name) ∧ W.cell? ⟨q, 1, none⟩ = some (.string m.c.image) ∧ W.cell? ⟨q, 2, none⟩ = some (.slice m.ca m.c.cmd.length m.cc) ∧ W.cell? ⟨q, 3, none⟩ = some (.slice m.pa m.c.ports.length m.pc) ∧ W.cell? ⟨q, 4, none⟩ = some (.int .i64 m.c.cpu) ∧ W.cell? ⟨q, 5, none⟩ = some (.int .i64 m.c.mem) ∧ W.cell? ⟨q, 6, none⟩ = some (.slice m.ea m.c.env.length m.ec)) := fun W f =>
        ⟨cell_of_at (f.at HQB.out) rfl, cell_of_at (f.at HQB.out) rfl, cell_of_at (f.at HQB.out) rfl, cell_of_at (f.at HQB.out) rfl, cell_of_at (f.at HQB.out) rfl, cell_of_at (f.at HQB.out) rfl, cell_of_at (f.at HQB.out) rfl⟩
      have HFI2 := Lib.hid (HFi.out.trans HF2.out)
      clear m0 m1 m2 m3 m4 m5 c0 c1 c2 c3 c4 c5 c6 HFi HF2
      have HK : Hid (Fresh V2 V2.drew) := (Fresh.refl V2).drew
      rename_i KK hKK
      refine flowM_region [some (Value.string Y), some (Value.pointer (some ⟨q, 0, none⟩)), some (Value.string m.c.name), some (Value.string A1), some (Value.string YA), some (Value.pointer (some ⟨q, 1, none⟩)), some (Value.string m.c.image), some (Value.string A2), some (Value.string YB), some (Value.pointer (some ⟨q, 2, none⟩)), some (Value.slice m.ca m.c.cmd.length m.cc), some (Value.int .i64 (m.c.cmd.length : Int)), some (Value.int .u64 (m.c.cmd.length : Int)), some (Value.string A3), some (Value.string Y1), some (Value.string Y1)] (fun _ _ _ => False) rfl (n := 187) rfl (by decide +kernel) (fun _ _ _ _ h _ => h) ⟨?_, ?_, ?_, ?_, ?_, ?_, ?_, ?_, ?_, ?_, ?_, ?_, ?_, ?_, ?_, ?_, trivial⟩ ?_
      · intro a W hf hin hst
        have g3 := ev_get (show a.eval (.tmp 3) = Value.string Y from hst 3 (by decide +kernel))
        refine .inl ⟨Value.string Y, W, ?_, .refl _, rfl⟩
        simp [execOp, g3, go_sem]
      · intro a W hf hin hst
        have g7 := ev_get (show a.eval (.tmp 7) = Value.pointer (some ⟨q, 0, none⟩) from hst 7 (by decide +kernel))
        refine .inl ⟨Value.pointer (some ⟨q, 0, none⟩), W, ?_, .refl _, rfl⟩
        simp [execOp, g7, go_sem]
      · intro a W hf hin hst
        obtain ⟨q0, q1, q2, q3, q4, q5, q6⟩ := HQ.out W (HK.out.trans hf)
        have g83 := ev_get (show a.eval (.tmp 83) = Value.pointer (some ⟨q, 0, none⟩) from hin 1 83 (by decide +kernel) (by decide +kernel))
        refine .inl ⟨Value.string m.c.name, W, ?_, .refl _, rfl⟩
        simp [execOp, g83, go_sem, q0, q1, q2, q3, q4, q5, q6]
      · intro a W hf hin hst
        have g84 := ev_get (show a.eval (.tmp 84) = Value.string m.c.name from hin 2 84 (by decide +kernel) (by decide +kernel))
        exact .inr ⟨51, #[Value.string m.c.name], by simp [execOp, g84, go_sem], (J1.out W).mono (fun e V h => ⟨_, h.1, h.2, rfl⟩)⟩
      · intro a W hf hin hst
        have g82 := ev_get (show a.eval (.tmp 82) = Value.string Y from hin 0 82 (by decide +kernel) (by decide +kernel))
        have g85 := ev_get (show a.eval (.tmp 85) = Value.string A1 from hin 3 85 (by decide +kernel) (by decide +kernel))
        refine .inl ⟨Value.string YA, W, ?_, .refl _, rfl⟩
        simp [execOp, g82, g85, go_sem, a1]
      · intro a W hf hin hst
        have g7 := ev_get (show a.eval (.tmp 7) = Value.pointer (some ⟨q, 0, none⟩) from hst 7 (by decide +kernel))
        refine .inl ⟨Value.pointer (some ⟨q, 1, none⟩), W, ?_, .refl _, rfl⟩
        simp [execOp, g7, go_sem]
      · intro a W hf hin hst
        obtain ⟨q0, q1, q2, q3, q4, q5, q6⟩ := HQ.out W (HK.out.trans hf)
        have g87 := ev_get (show a.eval (.tmp 87) = Value.pointer (some ⟨q, 1, none⟩) from hin 5 87 (by decide +kernel) (by decide +kernel))
        refine .inl ⟨Value.string m.c.image, W, ?_, .refl _, rfl⟩
        simp [execOp, g87, go_sem, q0, q1, q2, q3, q4, q5, q6]
      · intro a W hf hin hst
        have g88 := ev_get (show a.eval (.tmp 88) = Value.string m.c.image from hin 6 88 (by decide +kernel) (by decide +kernel))
        exact .inr ⟨51, #[Value.string m.c.image], by simp [execOp, g88, go_sem], (J2.out W).mono (fun e V h => ⟨_, h.1, h.2, rfl⟩)⟩
      · intro a W hf hin hst
        have g86 := ev_get (show a.eval (.tmp 86) = Value.string YA from hin 4 86 (by decide +kernel) (by decide +kernel))
        have g89 := ev_get (show a.eval (.tmp 89) = Value.string A2 from hin 7 89 (by decide +kernel) (by decide +kernel))
        refine .inl ⟨Value.string YB, W, ?_, .refl _, rfl⟩
        simp [execOp, g86, g89, go_sem, a2]
      · intro a W hf hin hst
        have g7 := ev_get (show a.eval (.tmp 7) = Value.pointer (some ⟨q, 0, none⟩) from hst 7 (by decide +kernel))
        refine .inl ⟨Value.pointer (some ⟨q, 2, none⟩), W, ?_, .refl _, rfl⟩
        simp [execOp, g7, go_sem]
      · intro a W hf hin hst
        obtain ⟨q0, q1, q2, q3, q4, q5, q6⟩ := HQ.out W (HK.out.trans hf)
        have g91 := ev_get (show a.eval (.tmp 91) = Value.pointer (some ⟨q, 2, none⟩) from hin 9 91 (by decide +kernel) (by decide +kernel))
        refine .inl ⟨Value.slice m.ca m.c.cmd.length m.cc, W, ?_, .refl _, rfl⟩
        simp [execOp, g91, go_sem, q0, q1, q2, q3, q4, q5, q6]
      · intro a W hf hin hst
        have g92 := ev_get (show a.eval (.tmp 92) = Value.slice m.ca m.c.cmd.length m.cc from hin 10 92 (by decide +kernel) (by decide +kernel))
        refine .inl ⟨Value.int .i64 (m.c.cmd.length : Int), W, ?_, .refl _, rfl⟩
        simp [execOp, g92, go_sem]
      · intro a W hf hin hst
        have g93 := ev_get (show a.eval (.tmp 93) = Value.int .i64 (m.c.cmd.length : Int) from hin 11 93 (by decide +kernel) (by decide +kernel))
        refine .inl ⟨Value.int .u64 (m.c.cmd.length : Int), W, ?_, .refl _, rfl⟩
        simp [execOp, g93, go_sem, w3]
      · intro a W hf hin hst
        have g94 := ev_get (show a.eval (.tmp 94) = Value.int .u64 (m.c.cmd.length : Int) from hin 12 94 (by decide +kernel) (by decide +kernel))
        exact .inr ⟨50, #[.int .i64 1, .int .u64 (m.c.cmd.length : Int)], by simp [execOp, g94, go_sem], (J3.out W).mono (fun e V h => ⟨_, h.1, h.2, rfl⟩)⟩
      · intro a W hf hin hst
        have g90 := ev_get (show a.eval (.tmp 90) = Value.string YB from hin 8 90 (by decide +kernel) (by decide +kernel))
        have g95 := ev_get (show a.eval (.tmp 95) = Value.string A3 from hin 13 95 (by decide +kernel) (by decide +kernel))
        refine .inl ⟨Value.string Y1, W, ?_, .refl _, rfl⟩
        simp [execOp, g90, g95, go_sem, a3]
      · intro a W hf hin hst
        have g96 := ev_get (show a.eval (.tmp 96) = Value.string Y1 from hin 14 96 (by decide +kernel) (by decide +kernel))
        refine .inl ⟨Value.string Y1, W, ?_, .refl _, rfl⟩
        simp [execOp, g96, go_sem]
      intro a W hsz hdf hf hkp hr
      have HK := Lib.hid (HK.out.trans hf)
      have ha := act_lit (n := 187) hsz hdf
      have k0 := (hkp 0 (by decide +kernel)).trans (ev_lit rfl)
      have k1 := (hkp 1 (by decide +kernel)).trans (ev_lit rfl)
      have k2 := (hkp 2 (by decide +kernel)).trans (ev_lit rfl)
      have k4 := (hkp 4 (by decide +kernel)).trans (ev_lit rfl)
      have k5 := (hkp 5 (by decide +kernel)).trans (ev_lit rfl)
      have k6 := (hkp 6 (by decide +kernel)).trans (ev_lit rfl)
      have k7 := (hkp 7 (by decide +kernel)).trans (ev_lit rfl)
      have k11 := (hkp 11 (by decide +kernel)).trans (ev_lit rfl)
      have k12 := (hkp 12 (by decide +kernel)).trans (ev_lit rfl)
      have k13 := (hkp 13 (by decide +kernel)).trans (ev_lit rfl)
      have k14 := (hkp 14 (by decide +kernel)).trans (ev_lit rfl)
      have k15 := (hkp 15 (by decide +kernel)).trans (ev_lit rfl)
      have k16 := (hkp 16 (by decide +kernel)).trans (ev_lit rfl)
      have k17 := (hkp 17 (by decide +kernel)).trans (ev_lit rfl)
      have k18 := (hkp 18 (by decide +kernel)).trans (ev_lit rfl)
      have k19 := (hkp 19 (by decide +kernel)).trans (ev_lit rfl)
      have k20 := (hkp 20 (by decide +kernel)).trans (ev_lit rfl)
      have k21 := (hkp 21 (by decide +kernel)).trans (ev_lit rfl)
      have k22 := (hkp 22 (by decide +kernel)).trans (ev_lit rfl)
      have k23 := (hkp 23 (by decide +kernel)).trans (ev_lit rfl)
      have k24 := (hkp 24 (by decide +kernel)).trans (ev_lit rfl)
      have k25 := (hkp 25 (by decide +kernel)).trans (ev_lit rfl)
      have k26 := (hkp 26 (by decide +kernel)).trans (ev_lit rfl)
      have k27 := (hkp 27 (by decide +kernel)).trans (ev_lit rfl)
      have k28 := (hkp 28 (by decide +kernel)).trans (ev_lit rfl)
      have k29 := (hkp 29 (by decide +kernel)).trans (ev_lit rfl)
      have k30 := (hkp 30 (by decide +kernel)).trans (ev_lit rfl)
      have k31 := (hkp 31 (by decide +kernel)).trans (ev_lit rfl)
      have k32 := (hkp 32 (by decide +kernel)).trans (ev_lit rfl)
      have k33 := (hkp 33 (by decide +kernel)).trans (ev_lit rfl)
      have k34 := (hkp 34 (by decide +kernel)).trans (ev_lit rfl)
      have k35 := (hkp 35 (by decide +kernel)).trans (ev_lit rfl)
      have k36 := (hkp 36 (by decide +kernel)).trans (ev_lit rfl)
      have k37 := (hkp 37 (by decide +kernel)).trans (ev_lit rfl)
      have k38 := (hkp 38 (by decide +kernel)).trans (ev_lit rfl)
      have k39 := (hkp 39 (by decide +kernel)).trans (ev_lit rfl)
      have k40 := (hkp 40 (by decide +kernel)).trans (ev_lit rfl)
      have k41 := (hkp 41 (by decide +kernel)).trans (ev_lit rfl)
      have k42 := (hkp 42 (by decide +kernel)).trans (ev_lit rfl)
      have k43 := (hkp 43 (by decide +kernel)).trans (ev_lit rfl)
      have k44 := (hkp 44 (by decide +kernel)).trans (ev_lit rfl)
      have k45 := (hkp 45 (by decide +kernel)).trans (ev_lit rfl)
      have k46 := (hkp 46 (by decide +kernel)).trans (ev_lit rfl)
      have k47 := (hkp 47 (by decide +kernel)).trans (ev_lit rfl)
      have k48 := (hkp 48 (by decide +kernel)).trans (ev_lit rfl)
      have k49 := (hkp 49 (by decide +kernel)).trans (ev_lit rfl)
      have k50 := (hkp 50 (by decide +kernel)).trans (ev_lit rfl)
      have k51 := (hkp 51 (by decide +kernel)).trans (ev_lit rfl)
      have k52 := (hkp 52 (by decide +kernel)).trans (ev_lit rfl)
      have k53 := (hkp 53 (by decide +kernel)).trans (ev_lit rfl)
      have k54 := (hkp 54 (by decide +kernel)).trans (ev_lit rfl)
      have k55 := (hkp 55 (by decide +kernel)).trans (ev_lit rfl)
      have k56 := (hkp 56 (by decide +kernel)).trans (ev_lit rfl)
      have k57 := (hkp 57 (by decide +kernel)).trans (ev_lit rfl)
      have k58 := (hkp 58 (by decide +kernel)).trans (ev_lit rfl)
      have k59 := (hkp 59 (by decide +kernel)).trans (ev_lit rfl)
      have k60 := (hkp 60 (by decide +kernel)).trans (ev_lit rfl)
      have k61 := (hkp 61 (by decide +kernel)).trans (ev_lit rfl)
      have k62 := (hkp 62 (by decide +kernel)).trans (ev_lit rfl)
      have k63 := (hkp 63 (by decide +kernel)).trans (ev_lit rfl)
      have k64 := (hkp 64 (by decide +kernel)).trans (ev_lit rfl)
      have k65 := (hkp 65 (by decide +kernel)).trans (ev_lit rfl)
      have k66 := (hkp 66 (by decide +kernel)).trans (ev_lit rfl)
      have k67 := (hkp 67 (by decide +kernel)).trans (ev_lit rfl)
      have k68 := (hkp 68 (by decide +kernel)).trans (ev_lit rfl)
      have k69 := (hkp 69 (by decide +kernel)).trans (ev_lit rfl)
      have k186 := (hkp 186 (by decide +kernel)).trans (ev_lit rfl)
      have k3 : a.eval (.tmp 3) = Value.string Y1 := hr 15 3 (by decide +kernel)
      simp only [List.range, List.range.loop, List.map_cons, List.map_nil, k0, k1, k2, k4, k5, k6, k7, k11, k12, k13, k14, k15, k16, k17, k18, k19, k20, k21, k22, k23, k24, k25, k26, k27, k28, k29, k30, k31, k32, k33, k34, k35, k36, k37, k38, k39, k40, k41, k42, k43, k44, k45, k46, k47, k48, k49, k50, k51, k52, k53, k54, k55, k56, k57, k58, k59, k60, k61, k62, k63, k64, k65, k66, k67, k68, k69, k186, k3] at ha
      clear k0 k1 k2 k4 k5 k6 k7 k11 k12 k13 k14 k15 k16 k17 k18 k19 k20 k21 k22 k23 k24 k25 k26 k27 k28 k29 k30 k31 k32 k33 k34 k35 k36 k37 k38 k39 k40 k41 k42 k43 k44 k45 k46 k47 k48 k49 k50 k51 k52 k53 k54 k55 k56 k57 k58 k59 k60 k61 k62 k63 k64 k65 k66 k67 k68 k69 k186 k3 hsz hdf hkp hr hf
      generalize a.eval (.tmp 8) = v8 at ha
      generalize a.eval (.tmp 9) = v9 at ha
      generalize a.eval (.tmp 10) = v10 at ha
      generalize a.eval (.tmp 70) = v70 at ha
      generalize a.eval (.tmp 71) = v71 at ha
      generalize a.eval (.tmp 72) = v72 at ha
      generalize a.eval (.tmp 73) = v73 at ha
      generalize a.eval (.tmp 74) = v74 at ha
      generalize a.eval (.tmp 75) = v75 at ha
      generalize a.eval (.tmp 76) = v76 at ha
      generalize a.eval (.tmp 77) = v77 at ha
      generalize a.eval (.tmp 78) = v78 at ha
      generalize a.eval (.tmp 79) = v79 at ha
      generalize a.eval (.tmp 80) = v80 at ha
      generalize a.eval (.tmp 81) = v81 at ha
      generalize a.eval (.tmp 82) = v82 at ha
      generalize a.eval (.tmp 83) = v83 at ha
      generalize a.eval (.tmp 84) = v84 at ha
      generalize a.eval (.tmp 85) = v85 at ha
      generalize a.eval (.tmp 86) = v86 at ha
      generalize a.eval (.tmp 87) = v87 at ha
      generalize a.eval (.tmp 88) = v88 at ha
      generalize a.eval (.tmp 89) = v89 at ha
      generalize a.eval (.tmp 90) = v90 at ha
      generalize a.eval (.tmp 91) = v91 at ha
      generalize a.eval (.tmp 92) = v92 at ha
      generalize a.eval (.tmp 93) = v93 at ha
      generalize a.eval (.tmp 94) = v94 at ha
      generalize a.eval (.tmp 95) = v95 at ha
      generalize a.eval (.tmp 96) = v96 at ha
      generalize a.eval (.tmp 97) = v97 at ha
      generalize a.eval (.tmp 98) = v98 at ha
      generalize a.eval (.tmp 99) = v99 at ha
      generalize a.eval (.tmp 100) = v100 at ha
      generalize a.eval (.tmp 101) = v101 at ha
      generalize a.eval (.tmp 102) = v102 at ha
      generalize a.eval (.tmp 103) = v103 at ha
      generalize a.eval (.tmp 104) = v104 at ha
      generalize a.eval (.tmp 105) = v105 at ha
      generalize a.eval (.tmp 106) = v106 at ha
      generalize a.eval (.tmp 107) = v107 at ha
      generalize a.eval (.tmp 108) = v108 at ha
      generalize a.eval (.tmp 109) = v109 at ha
      generalize a.eval (.tmp 110) = v110 at ha
      generalize a.eval (.tmp 111) = v111 at ha
      generalize a.eval (.tmp 112) = v112 at ha
      generalize a.eval (.tmp 113) = v113 at ha
      generalize a.eval (.tmp 114) = v114 at ha
      generalize a.eval (.tmp 115) = v115 at ha
      generalize a.eval (.tmp 116) = v116 at ha
      generalize a.eval (.tmp 117) = v117 at ha
      generalize a.eval (.tmp 118) = v118 at ha
      generalize a.eval (.tmp 119) = v119 at ha
      generalize a.eval (.tmp 120) = v120 at ha
      generalize a.eval (.tmp 121) = v121 at ha
      generalize a.eval (.tmp 122) = v122 at ha
      generalize a.eval (.tmp 123) = v123 at ha
      generalize a.eval (.tmp 124) = v124 at ha
      generalize a.eval (.tmp 125) = v125 at ha
      generalize a.eval (.tmp 126) = v126 at ha
      generalize a.eval (.tmp 127) = v127 at ha
      generalize a.eval (.tmp 128) = v128 at ha
      generalize a.eval (.tmp 129) = v129 at ha
      generalize a.eval (.tmp 130) = v130 at ha
      generalize a.eval (.tmp 131) = v131 at ha
      generalize a.eval (.tmp 132) = v132 at ha
      generalize a.eval (.tmp 133) = v133 at ha
      generalize a.eval (.tmp 134) = v134 at ha
      generalize a.eval (.tmp 135) = v135 at ha
      generalize a.eval (.tmp 136) = v136 at ha
      generalize a.eval (.tmp 137) = v137 at ha
      generalize a.eval (.tmp 138) = v138 at ha
      generalize a.eval (.tmp 139) = v139 at ha
      generalize a.eval (.tmp 140) = v140 at ha
      generalize a.eval (.tmp 141) = v141 at ha
      generalize a.eval (.tmp 142) = v142 at ha
      generalize a.eval (.tmp 143) = v143 at ha
      generalize a.eval (.tmp 144) = v144 at ha
      generalize a.eval (.tmp 145) = v145 at ha
      generalize a.eval (.tmp 146) = v146 at ha
      generalize a.eval (.tmp 147) = v147 at ha
      generalize a.eval (.tmp 148) = v148 at ha
      generalize a.eval (.tmp 149) = v149 at ha
      generalize a.eval (.tmp 150) = v150 at ha
      generalize a.eval (.tmp 151) = v151 at ha
      generalize a.eval (.tmp 152) = v152 at ha
      generalize a.eval (.tmp 153) = v153 at ha
      generalize a.eval (.tmp 154) = v154 at ha
      generalize a.eval (.tmp 155) = v155 at ha
      generalize a.eval (.tmp 156) = v156 at ha
      generalize a.eval (.tmp 157) = v157 at ha
      generalize a.eval (.tmp 158) = v158 at ha
      generalize a.eval (.tmp 159) = v159 at ha
      generalize a.eval (.tmp 160) = v160 at ha
      generalize a.eval (.tmp 161) = v161 at ha
      generalize a.eval (.tmp 162) = v162 at ha
      generalize a.eval (.tmp 163) = v163 at ha
      generalize a.eval (.tmp 164) = v164 at ha
      generalize a.eval (.tmp 165) = v165 at ha
      generalize a.eval (.tmp 166) = v166 at ha
      generalize a.eval (.tmp 167) = v167 at ha
      generalize a.eval (.tmp 168) = v168 at ha
      generalize a.eval (.tmp 169) = v169 at ha
      generalize a.eval (.tmp 170) = v170 at ha
      generalize a.eval (.tmp 171) = v171 at ha
      generalize a.eval (.tmp 172) = v172 at ha
      generalize a.eval (.tmp 173) = v173 at ha
      generalize a.eval (.tmp 174) = v174 at ha
      generalize a.eval (.tmp 175) = v175 at ha
      generalize a.eval (.tmp 176) = v176 at ha
      generalize a.eval (.tmp 177) = v177 at ha
      generalize a.eval (.tmp 178) = v178 at ha
      generalize a.eval (.tmp 179) = v179 at ha
      generalize a.eval (.tmp 180) = v180 at ha
      generalize a.eval (.tmp 181) = v181 at ha
      generalize a.eval (.tmp 182) = v182 at ha
      generalize a.eval (.tmp 183) = v183 at ha
      generalize a.eval (.tmp 184) = v184 at ha
      generalize a.eval (.tmp 185) = v185 at ha
      subst ha
      refine hKK _ W ?_
      clear a1 a2 a3 w3 J1 J2 J3 s1 s2 hKK z1 z2 z3 hY
      go_wp2
      go_loopw [3, 8] (fun a3 a8 wv => ∃ (j : Nat), a8 = .int .i64 (j : Int) ∧ a3 = .string (acc Y1 txtL m.c.cmd j) ∧ j ≤ m.c.cmd.length ∧ Hid (Fresh V2 wv)) (fun _ a8 _ => m.c.cmd.length - (intOf a8).toNat)
      case atStart => exact ⟨0, rfl, by rw [acc_zero], Nat.zero_le _, HK.out⟩
      case round =>
      clear HK
      obtain ⟨j, rfl, rfl, hj, HFj⟩ := hrel
      obtain ⟨q0, q1, q2, q3, q4, q5, q6⟩ := HQ.out _ HFj.out
      by_cases hjl : j < m.c.cmd.length
      case pos =>
        obtain ⟨g2, o2, e2, hc2⟩ := trow_form (HMI.out.cmd.move HFj.out) hjl
        have r0 := hc2 j hjl
        rw [e2] at q2
        have hx := HOK.out.cmd _ (List.getElem_mem hjl)
        have J1 := Lib.hid (fun W => rtext_tx m.c.cmd[j] W hx)
        have HS : Hid (acc Y1 txtL m.c.cmd (j + 1) = acc Y1 txtL m.c.cmd j ++ tx (txtL m.c.cmd[j])) := acc_succ _ _ hjl
        have hZ : (acc Y1 txtL m.c.cmd j).size ≤ Y1.size + 16 * 4098 := acc_size Y1 txtL m.c.cmd j 4098 16 (fun s hs => by rw [txtL_len]; have := HOK.out.cmd s hs; omega) d3
        have hz : (tx (txtL m.c.cmd[j])).size ≤ 4098 := by rw [tx_size, txtL_len]; omega
        clear hc2 e2
        generalize m.c.cmd[j] = x at *
        generalize tx (txtL x) = A at *
        generalize acc Y1 txtL m.c.cmd j = Z at *
        obtain ⟨Z', hZ'⟩ : ∃ Z', Z' = acc Y1 txtL m.c.cmd (j + 1) := ⟨_, rfl⟩
        rw [← hZ'] at HS
        have HZ' := Lib.hid hZ'
        clear hZ'
        have ha := add_run Z A Z' (by omega) HS.out.symm
        go_wp2_with (fail)
        all_goals try (exfalso; omega)
        refine (J1.out _).mono ?_
        rintro e W2 ⟨rfl, hf⟩
        have HFn := Lib.hid (HFj.out.trans hf)
        clear hf
        go_wp2
        all_goals try (exfalso; omega)
        go_roundw
        case rel => exact ⟨j + 1, by simp, congrArg Value.string HZ'.out, by omega, HFn.out⟩
        case measure => simp [intOf]; omega
      case neg =>
      obtain rfl : j = m.c.cmd.length := by omega
      have hcp := HCP.out
      rw [← acc_full Y1 txtL m.c.cmd] at hcp
      have HCP := Lib.hid hcp
      have hY2 : (acc Y1 txtL m.c.cmd m.c.cmd.length).size ≤ Y1.size + 16 * 4098 := acc_size Y1 txtL m.c.cmd _ 4098 16 (fun s hs => by rw [txtL_len]; have := HOK.out.cmd s hs; omega) d3
      have J1 := Lib.hid (fun W => rput_at 1 (m.c.ports.length : Int) W (by decide) (by omega) (by omega))
      rw [show (1 : Int).toNat = 1 from rfl, Int.toNat_natCast] at J1
      have w1 : IntKind.u64.wrap (m.c.ports.length : Int) = (m.c.ports.length : Int) := wrap_u64' (by omega) (by omega)
      have z1 : (beS 1 m.c.ports.length).size = 1 := beS_size _ _
      clear hcp
      generalize acc Y1 txtL m.c.cmd m.c.cmd.length = Y2 at *
      generalize beS 1 m.c.ports.length = A1 at *
      have a1 := add_run Y2 A1 _ (by omega) rfl
      have s1 : (Y2 ++ A1).size ≤ Y1.size + 16 * 4098 + 1 := by rw [ByteArray.size_append]; omega
      generalize Y2 ++ A1 = Y3 at *
      go_wp2_with (fail)
      all_goals try (exfalso; omega)
      refine (J1.out _).mono ?_
      rintro e W2 ⟨rfl, hf⟩
      have HFp := Lib.hid (HFj.out.trans hf)
      obtain ⟨q0, q1, q2, q3, q4, q5, q6⟩ := HQ.out _ HFp.out
      clear hf HFj J1
      go_wp2
      all_goals try (exfalso; omega)
      clear a1 w1 z1 q0 q1 q2 q3 q4 q5 q6
      go_loopw [3, 9] (fun a3 a9 wv => ∃ (j : Nat), a9 = .int .i64 (j : Int) ∧ a3 = .string (acc Y3 portL m.c.ports j) ∧ j ≤ m.c.ports.length ∧ Hid (Fresh V2 wv)) (fun _ a9 _ => m.c.ports.length - (intOf a9).toNat)
      case atStart => exact ⟨0, rfl, by rw [acc_zero], Nat.zero_le _, HFp.out⟩
      case round =>
      clear HFp
      obtain ⟨j, rfl, rfl, hj, HFj⟩ := hrel
      obtain ⟨q0, q1, q2, q3, q4, q5, q6⟩ := HQ.out _ HFj.out
      by_cases hjl : j < m.c.ports.length
      case pos =>
        obtain ⟨gp, op, e3, hcp⟩ := prow_form HMI.out.ports hjl
        obtain ⟨r0, r1⟩ := hcp j hjl
        obtain ⟨⟨g1, g2⟩, g3, g4⟩ := HOK.out.ports _ (List.getElem_mem hjl)
        have HS : Hid (acc Y3 portL m.c.ports (j + 1) = acc Y3 portL m.c.ports j ++ tx (portL m.c.ports[j])) := acc_succ _ _ hjl
        have HPP := Lib.hid (port_parts (acc Y3 portL m.c.ports j) m.c.ports[j])
        have hZ : (acc Y3 portL m.c.ports j).size ≤ Y3.size + 16 * 3 := acc_size Y3 portL m.c.ports j 3 16 (fun s _ => by simp only [portL, List.length_append, be_length]; omega) d4
        clear hcp
        generalize m.c.ports[j] = x at *
        obtain ⟨p1, p2⟩ := x
        dsimp only at r0 r1 g1 g2 g3 g4 HPP
        have J1 := Lib.hid (fun W => rput_at 2 p1 W (by decide) (by omega) (by omega))
        have J2 := Lib.hid (fun W => rput_at 1 p2 W (by decide) (by omega) (by omega))
        rw [show (2 : Int).toNat = 2 from rfl] at J1
        rw [show (1 : Int).toNat = 1 from rfl] at J2
        have w1 : IntKind.u64.wrap p1 = p1 := wrap_u64' (by omega) (by omega)
        have w2 : IntKind.u64.wrap p2 = p2 := wrap_u64' (by omega) (by omega)
        have z1 : (beS 2 p1.toNat).size = 2 := beS_size _ _
        have z2 : (beS 1 p2.toNat).size = 1 := beS_size _ _
        rw [← HS.out] at HPP
        generalize beS 2 p1.toNat = A1 at *
        generalize beS 1 p2.toNat = A2 at *
        generalize acc Y3 portL m.c.ports j = Z at *
        obtain ⟨Z', hZ'⟩ : ∃ Z', Z' = acc Y3 portL m.c.ports (j + 1) := ⟨_, rfl⟩
        rw [← hZ'] at HPP
        have HZ' := Lib.hid hZ'
        clear hZ' HS
        have s4 : (Z ++ A1).size ≤ Z.size + 2 := by rw [ByteArray.size_append]; omega
        have a1 := add_run Z A1 _ (by omega) rfl
        generalize Z ++ A1 = ZA at *
        have a2 := add_run ZA A2 Z' (by omega) HPP.out
        have i1 : (0 : Int) ≤ (j : Int) := by omega
        have i2 : (j : Int) < (m.c.ports.length : Int) := by omega
        have HR : Hid (∀ W, Fresh V2 W → W.cell? ⟨q, 3, none⟩ = some (.slice (some ⟨gp, op, none⟩) m.c.ports.length m.pc) ∧ W.cell? ⟨gp, op + j * 2, none⟩ = some (.int .i64 p1) ∧ W.cell? ⟨gp, op + j * 2 + 1, none⟩ = some (.int .i64 p2)) := fun W f =>
          ⟨by rw [(HQ.out W f).2.2.2.1, e3], f.cell r0, f.cell r1⟩
        clear r0 r1 e3
        go_wp2_with (fail)
        all_goals try (exfalso; omega)
        clear q0 q1 q2 q3 q4 q5 q6
        have HK := Lib.hid (HFj.out.drew)
        rename_i KK hKK
        refine flowM_region [some (Value.string Z), some (Value.pointer (some ⟨q, 3, none⟩)), some (Value.slice (some ⟨gp, op, none⟩) m.c.ports.length m.pc), some (Value.int .i64 (j : Int)), some (Value.pointer (some ⟨gp, op + j * 2, none⟩)), some (Value.pointer (some ⟨gp, op + j * 2, none⟩)), some (Value.int .i64 p1), some (Value.int .u64 p1), some (Value.string A1), some (Value.string ZA), some (Value.pointer (some ⟨q, 3, none⟩)), some (Value.slice (some ⟨gp, op, none⟩) m.c.ports.length m.pc), some (Value.int .i64 (j : Int)), some (Value.pointer (some ⟨gp, op + j * 2, none⟩)), some (Value.pointer (some ⟨gp, op + j * 2 + 1, none⟩)), some (Value.int .i64 p2), some (Value.int .u64 p2), some (Value.string A2), some (Value.string Z'), some (Value.string Z')] (fun _ _ _ => False) rfl (n := 187) rfl (by decide +kernel) (fun _ _ _ _ h _ => h) ⟨?_, ?_, ?_, ?_, ?_, ?_, ?_, ?_, ?_, ?_, ?_, ?_, ?_, ?_, ?_, ?_, ?_, ?_, ?_, ?_, trivial⟩ ?_
        · intro a W hf hin hst
          have g3 := ev_get (show a.eval (.tmp 3) = Value.string Z from hst 3 (by decide +kernel))
          refine .inl ⟨Value.string Z, W, ?_, .refl _, rfl⟩
          simp [execOp, g3, go_sem]
        · intro a W hf hin hst
          have g7 := ev_get (show a.eval (.tmp 7) = Value.pointer (some ⟨q, 0, none⟩) from hst 7 (by decide +kernel))
          refine .inl ⟨Value.pointer (some ⟨q, 3, none⟩), W, ?_, .refl _, rfl⟩
          simp [execOp, g7, go_sem]
        · intro a W hf hin hst
          obtain ⟨q3, r0, r1⟩ := HR.out W (HK.out.trans hf)
          have g127 := ev_get (show a.eval (.tmp 127) = Value.pointer (some ⟨q, 3, none⟩) from hin 1 127 (by decide +kernel) (by decide +kernel))
          refine .inl ⟨Value.slice (some ⟨gp, op, none⟩) m.c.ports.length m.pc, W, ?_, .refl _, rfl⟩
          simp [execOp, g127, go_sem, q3, r0, r1]
        · intro a W hf hin hst
          have g9 := ev_get (show a.eval (.tmp 9) = Value.int .i64 (j : Int) from hst 9 (by decide +kernel))
          refine .inl ⟨Value.int .i64 (j : Int), W, ?_, .refl _, rfl⟩
          simp [execOp, g9, go_sem]
        · intro a W hf hin hst
          have g128 := ev_get (show a.eval (.tmp 128) = Value.slice (some ⟨gp, op, none⟩) m.c.ports.length m.pc from hin 2 128 (by decide +kernel) (by decide +kernel))
          have g129 := ev_get (show a.eval (.tmp 129) = Value.int .i64 (j : Int) from hin 3 129 (by decide +kernel) (by decide +kernel))
          refine .inl ⟨Value.pointer (some ⟨gp, op + j * 2, none⟩), W, ?_, .refl _, rfl⟩
          simp [execOp, g128, g129, go_sem, i1, i2]
        · intro a W hf hin hst
          have g130 := ev_get (show a.eval (.tmp 130) = Value.pointer (some ⟨gp, op + j * 2, none⟩) from hin 4 130 (by decide +kernel) (by decide +kernel))
          refine .inl ⟨Value.pointer (some ⟨gp, op + j * 2, none⟩), W, ?_, .refl _, rfl⟩
          simp [execOp, g130, go_sem]
        · intro a W hf hin hst
          obtain ⟨q3, r0, r1⟩ := HR.out W (HK.out.trans hf)
          have g131 := ev_get (show a.eval (.tmp 131) = Value.pointer (some ⟨gp, op + j * 2, none⟩) from hin 5 131 (by decide +kernel) (by decide +kernel))
          refine .inl ⟨Value.int .i64 p1, W, ?_, .refl _, rfl⟩
          simp [execOp, g131, go_sem, q3, r0, r1]
        · intro a W hf hin hst
          have g132 := ev_get (show a.eval (.tmp 132) = Value.int .i64 p1 from hin 6 132 (by decide +kernel) (by decide +kernel))
          refine .inl ⟨Value.int .u64 p1, W, ?_, .refl _, rfl⟩
          simp [execOp, g132, go_sem, w1]
        · intro a W hf hin hst
          have g133 := ev_get (show a.eval (.tmp 133) = Value.int .u64 p1 from hin 7 133 (by decide +kernel) (by decide +kernel))
          exact .inr ⟨50, #[.int .i64 2, .int .u64 p1], by simp [execOp, g133, go_sem], (J1.out W).mono (fun e V h => ⟨_, h.1, h.2, rfl⟩)⟩
        · intro a W hf hin hst
          have g126 := ev_get (show a.eval (.tmp 126) = Value.string Z from hin 0 126 (by decide +kernel) (by decide +kernel))
          have g134 := ev_get (show a.eval (.tmp 134) = Value.string A1 from hin 8 134 (by decide +kernel) (by decide +kernel))
          refine .inl ⟨Value.string ZA, W, ?_, .refl _, rfl⟩
          simp [execOp, g126, g134, go_sem, a1]
        · intro a W hf hin hst
          have g7 := ev_get (show a.eval (.tmp 7) = Value.pointer (some ⟨q, 0, none⟩) from hst 7 (by decide +kernel))
          refine .inl ⟨Value.pointer (some ⟨q, 3, none⟩), W, ?_, .refl _, rfl⟩
          simp [execOp, g7, go_sem]
        · intro a W hf hin hst
          obtain ⟨q3, r0, r1⟩ := HR.out W (HK.out.trans hf)
          have g136 := ev_get (show a.eval (.tmp 136) = Value.pointer (some ⟨q, 3, none⟩) from hin 10 136 (by decide +kernel) (by decide +kernel))
          refine .inl ⟨Value.slice (some ⟨gp, op, none⟩) m.c.ports.length m.pc, W, ?_, .refl _, rfl⟩
          simp [execOp, g136, go_sem, q3, r0, r1]
        · intro a W hf hin hst
          have g9 := ev_get (show a.eval (.tmp 9) = Value.int .i64 (j : Int) from hst 9 (by decide +kernel))
          refine .inl ⟨Value.int .i64 (j : Int), W, ?_, .refl _, rfl⟩
          simp [execOp, g9, go_sem]
        · intro a W hf hin hst
          have g137 := ev_get (show a.eval (.tmp 137) = Value.slice (some ⟨gp, op, none⟩) m.c.ports.length m.pc from hin 11 137 (by decide +kernel) (by decide +kernel))
          have g138 := ev_get (show a.eval (.tmp 138) = Value.int .i64 (j : Int) from hin 12 138 (by decide +kernel) (by decide +kernel))
          refine .inl ⟨Value.pointer (some ⟨gp, op + j * 2, none⟩), W, ?_, .refl _, rfl⟩
          simp [execOp, g137, g138, go_sem, i1, i2]
        · intro a W hf hin hst
          have g139 := ev_get (show a.eval (.tmp 139) = Value.pointer (some ⟨gp, op + j * 2, none⟩) from hin 13 139 (by decide +kernel) (by decide +kernel))
          refine .inl ⟨Value.pointer (some ⟨gp, op + j * 2 + 1, none⟩), W, ?_, .refl _, rfl⟩
          simp [execOp, g139, go_sem]
        · intro a W hf hin hst
          obtain ⟨q3, r0, r1⟩ := HR.out W (HK.out.trans hf)
          have g140 := ev_get (show a.eval (.tmp 140) = Value.pointer (some ⟨gp, op + j * 2 + 1, none⟩) from hin 14 140 (by decide +kernel) (by decide +kernel))
          refine .inl ⟨Value.int .i64 p2, W, ?_, .refl _, rfl⟩
          simp [execOp, g140, go_sem, q3, r0, r1]
        · intro a W hf hin hst
          have g141 := ev_get (show a.eval (.tmp 141) = Value.int .i64 p2 from hin 15 141 (by decide +kernel) (by decide +kernel))
          refine .inl ⟨Value.int .u64 p2, W, ?_, .refl _, rfl⟩
          simp [execOp, g141, go_sem, w2]
        · intro a W hf hin hst
          have g142 := ev_get (show a.eval (.tmp 142) = Value.int .u64 p2 from hin 16 142 (by decide +kernel) (by decide +kernel))
          exact .inr ⟨50, #[.int .i64 1, .int .u64 p2], by simp [execOp, g142, go_sem], (J2.out W).mono (fun e V h => ⟨_, h.1, h.2, rfl⟩)⟩
        · intro a W hf hin hst
          have g135 := ev_get (show a.eval (.tmp 135) = Value.string ZA from hin 9 135 (by decide +kernel) (by decide +kernel))
          have g143 := ev_get (show a.eval (.tmp 143) = Value.string A2 from hin 17 143 (by decide +kernel) (by decide +kernel))
          refine .inl ⟨Value.string Z', W, ?_, .refl _, rfl⟩
          simp [execOp, g135, g143, go_sem, a2]
        · intro a W hf hin hst
          have g144 := ev_get (show a.eval (.tmp 144) = Value.string Z' from hin 18 144 (by decide +kernel) (by decide +kernel))
          refine .inl ⟨Value.string Z', W, ?_, .refl _, rfl⟩
          simp [execOp, g144, go_sem]
        intro a W hsz hdf hf hkp hr
        have HK := Lib.hid (HK.out.trans hf)
        have ha := act_lit (n := 187) hsz hdf
        have k0 := (hkp 0 (by decide +kernel)).trans (ev_lit rfl)
        have k1 := (hkp 1 (by decide +kernel)).trans (ev_lit rfl)
        have k2 := (hkp 2 (by decide +kernel)).trans (ev_lit rfl)
        have k4 := (hkp 4 (by decide +kernel)).trans (ev_lit rfl)
        have k5 := (hkp 5 (by decide +kernel)).trans (ev_lit rfl)
        have k6 := (hkp 6 (by decide +kernel)).trans (ev_lit rfl)
        have k7 := (hkp 7 (by decide +kernel)).trans (ev_lit rfl)
        have k8 := (hkp 8 (by decide +kernel)).trans (ev_lit rfl)
        have k9 := (hkp 9 (by decide +kernel)).trans (ev_lit rfl)
        have k10 := (hkp 10 (by decide +kernel)).trans (ev_lit rfl)
        have k11 := (hkp 11 (by decide +kernel)).trans (ev_lit rfl)
        have k12 := (hkp 12 (by decide +kernel)).trans (ev_lit rfl)
        have k13 := (hkp 13 (by decide +kernel)).trans (ev_lit rfl)
        have k14 := (hkp 14 (by decide +kernel)).trans (ev_lit rfl)
        have k15 := (hkp 15 (by decide +kernel)).trans (ev_lit rfl)
        have k16 := (hkp 16 (by decide +kernel)).trans (ev_lit rfl)
        have k17 := (hkp 17 (by decide +kernel)).trans (ev_lit rfl)
        have k18 := (hkp 18 (by decide +kernel)).trans (ev_lit rfl)
        have k19 := (hkp 19 (by decide +kernel)).trans (ev_lit rfl)
        have k20 := (hkp 20 (by decide +kernel)).trans (ev_lit rfl)
        have k21 := (hkp 21 (by decide +kernel)).trans (ev_lit rfl)
        have k22 := (hkp 22 (by decide +kernel)).trans (ev_lit rfl)
        have k23 := (hkp 23 (by decide +kernel)).trans (ev_lit rfl)
        have k24 := (hkp 24 (by decide +kernel)).trans (ev_lit rfl)
        have k25 := (hkp 25 (by decide +kernel)).trans (ev_lit rfl)
        have k26 := (hkp 26 (by decide +kernel)).trans (ev_lit rfl)
        have k27 := (hkp 27 (by decide +kernel)).trans (ev_lit rfl)
        have k28 := (hkp 28 (by decide +kernel)).trans (ev_lit rfl)
        have k29 := (hkp 29 (by decide +kernel)).trans (ev_lit rfl)
        have k30 := (hkp 30 (by decide +kernel)).trans (ev_lit rfl)
        have k31 := (hkp 31 (by decide +kernel)).trans (ev_lit rfl)
        have k32 := (hkp 32 (by decide +kernel)).trans (ev_lit rfl)
        have k33 := (hkp 33 (by decide +kernel)).trans (ev_lit rfl)
        have k34 := (hkp 34 (by decide +kernel)).trans (ev_lit rfl)
        have k35 := (hkp 35 (by decide +kernel)).trans (ev_lit rfl)
        have k36 := (hkp 36 (by decide +kernel)).trans (ev_lit rfl)
        have k37 := (hkp 37 (by decide +kernel)).trans (ev_lit rfl)
        have k38 := (hkp 38 (by decide +kernel)).trans (ev_lit rfl)
        have k39 := (hkp 39 (by decide +kernel)).trans (ev_lit rfl)
        have k40 := (hkp 40 (by decide +kernel)).trans (ev_lit rfl)
        have k41 := (hkp 41 (by decide +kernel)).trans (ev_lit rfl)
        have k42 := (hkp 42 (by decide +kernel)).trans (ev_lit rfl)
        have k43 := (hkp 43 (by decide +kernel)).trans (ev_lit rfl)
        have k44 := (hkp 44 (by decide +kernel)).trans (ev_lit rfl)
        have k45 := (hkp 45 (by decide +kernel)).trans (ev_lit rfl)
        have k46 := (hkp 46 (by decide +kernel)).trans (ev_lit rfl)
        have k47 := (hkp 47 (by decide +kernel)).trans (ev_lit rfl)
        have k48 := (hkp 48 (by decide +kernel)).trans (ev_lit rfl)
        have k49 := (hkp 49 (by decide +kernel)).trans (ev_lit rfl)
        have k50 := (hkp 50 (by decide +kernel)).trans (ev_lit rfl)
        have k51 := (hkp 51 (by decide +kernel)).trans (ev_lit rfl)
        have k52 := (hkp 52 (by decide +kernel)).trans (ev_lit rfl)
        have k53 := (hkp 53 (by decide +kernel)).trans (ev_lit rfl)
        have k54 := (hkp 54 (by decide +kernel)).trans (ev_lit rfl)
        have k55 := (hkp 55 (by decide +kernel)).trans (ev_lit rfl)
        have k56 := (hkp 56 (by decide +kernel)).trans (ev_lit rfl)
        have k57 := (hkp 57 (by decide +kernel)).trans (ev_lit rfl)
        have k58 := (hkp 58 (by decide +kernel)).trans (ev_lit rfl)
        have k59 := (hkp 59 (by decide +kernel)).trans (ev_lit rfl)
        have k60 := (hkp 60 (by decide +kernel)).trans (ev_lit rfl)
        have k61 := (hkp 61 (by decide +kernel)).trans (ev_lit rfl)
        have k62 := (hkp 62 (by decide +kernel)).trans (ev_lit rfl)
        have k63 := (hkp 63 (by decide +kernel)).trans (ev_lit rfl)
        have k64 := (hkp 64 (by decide +kernel)).trans (ev_lit rfl)
        have k65 := (hkp 65 (by decide +kernel)).trans (ev_lit rfl)
        have k66 := (hkp 66 (by decide +kernel)).trans (ev_lit rfl)
        have k67 := (hkp 67 (by decide +kernel)).trans (ev_lit rfl)
        have k68 := (hkp 68 (by decide +kernel)).trans (ev_lit rfl)
        have k69 := (hkp 69 (by decide +kernel)).trans (ev_lit rfl)
        have k70 := (hkp 70 (by decide +kernel)).trans (ev_lit rfl)
        have k71 := (hkp 71 (by decide +kernel)).trans (ev_lit rfl)
        have k72 := (hkp 72 (by decide +kernel)).trans (ev_lit rfl)
        have k73 := (hkp 73 (by decide +kernel)).trans (ev_lit rfl)
        have k74 := (hkp 74 (by decide +kernel)).trans (ev_lit rfl)
        have k75 := (hkp 75 (by decide +kernel)).trans (ev_lit rfl)
        have k76 := (hkp 76 (by decide +kernel)).trans (ev_lit rfl)
        have k77 := (hkp 77 (by decide +kernel)).trans (ev_lit rfl)
        have k78 := (hkp 78 (by decide +kernel)).trans (ev_lit rfl)
        have k79 := (hkp 79 (by decide +kernel)).trans (ev_lit rfl)
        have k80 := (hkp 80 (by decide +kernel)).trans (ev_lit rfl)
        have k81 := (hkp 81 (by decide +kernel)).trans (ev_lit rfl)
        have k82 := (hkp 82 (by decide +kernel)).trans (ev_lit rfl)
        have k83 := (hkp 83 (by decide +kernel)).trans (ev_lit rfl)
        have k84 := (hkp 84 (by decide +kernel)).trans (ev_lit rfl)
        have k85 := (hkp 85 (by decide +kernel)).trans (ev_lit rfl)
        have k86 := (hkp 86 (by decide +kernel)).trans (ev_lit rfl)
        have k87 := (hkp 87 (by decide +kernel)).trans (ev_lit rfl)
        have k88 := (hkp 88 (by decide +kernel)).trans (ev_lit rfl)
        have k89 := (hkp 89 (by decide +kernel)).trans (ev_lit rfl)
        have k90 := (hkp 90 (by decide +kernel)).trans (ev_lit rfl)
        have k91 := (hkp 91 (by decide +kernel)).trans (ev_lit rfl)
        have k92 := (hkp 92 (by decide +kernel)).trans (ev_lit rfl)
        have k93 := (hkp 93 (by decide +kernel)).trans (ev_lit rfl)
        have k94 := (hkp 94 (by decide +kernel)).trans (ev_lit rfl)
        have k95 := (hkp 95 (by decide +kernel)).trans (ev_lit rfl)
        have k96 := (hkp 96 (by decide +kernel)).trans (ev_lit rfl)
        have k97 := (hkp 97 (by decide +kernel)).trans (ev_lit rfl)
        have k98 := (hkp 98 (by decide +kernel)).trans (ev_lit rfl)
        have k99 := (hkp 99 (by decide +kernel)).trans (ev_lit rfl)
        have k100 := (hkp 100 (by decide +kernel)).trans (ev_lit rfl)
        have k101 := (hkp 101 (by decide +kernel)).trans (ev_lit rfl)
        have k102 := (hkp 102 (by decide +kernel)).trans (ev_lit rfl)
        have k103 := (hkp 103 (by decide +kernel)).trans (ev_lit rfl)
        have k104 := (hkp 104 (by decide +kernel)).trans (ev_lit rfl)
        have k105 := (hkp 105 (by decide +kernel)).trans (ev_lit rfl)
        have k106 := (hkp 106 (by decide +kernel)).trans (ev_lit rfl)
        have k107 := (hkp 107 (by decide +kernel)).trans (ev_lit rfl)
        have k108 := (hkp 108 (by decide +kernel)).trans (ev_lit rfl)
        have k109 := (hkp 109 (by decide +kernel)).trans (ev_lit rfl)
        have k110 := (hkp 110 (by decide +kernel)).trans (ev_lit rfl)
        have k111 := (hkp 111 (by decide +kernel)).trans (ev_lit rfl)
        have k112 := (hkp 112 (by decide +kernel)).trans (ev_lit rfl)
        have k113 := (hkp 113 (by decide +kernel)).trans (ev_lit rfl)
        have k114 := (hkp 114 (by decide +kernel)).trans (ev_lit rfl)
        have k115 := (hkp 115 (by decide +kernel)).trans (ev_lit rfl)
        have k116 := (hkp 116 (by decide +kernel)).trans (ev_lit rfl)
        have k117 := (hkp 117 (by decide +kernel)).trans (ev_lit rfl)
        have k118 := (hkp 118 (by decide +kernel)).trans (ev_lit rfl)
        have k145 := (hkp 145 (by decide +kernel)).trans (ev_lit rfl)
        have k146 := (hkp 146 (by decide +kernel)).trans (ev_lit rfl)
        have k147 := (hkp 147 (by decide +kernel)).trans (ev_lit rfl)
        have k148 := (hkp 148 (by decide +kernel)).trans (ev_lit rfl)
        have k149 := (hkp 149 (by decide +kernel)).trans (ev_lit rfl)
        have k150 := (hkp 150 (by decide +kernel)).trans (ev_lit rfl)
        have k151 := (hkp 151 (by decide +kernel)).trans (ev_lit rfl)
        have k152 := (hkp 152 (by decide +kernel)).trans (ev_lit rfl)
        have k153 := (hkp 153 (by decide +kernel)).trans (ev_lit rfl)
        have k154 := (hkp 154 (by decide +kernel)).trans (ev_lit rfl)
        have k155 := (hkp 155 (by decide +kernel)).trans (ev_lit rfl)
        have k156 := (hkp 156 (by decide +kernel)).trans (ev_lit rfl)
        have k157 := (hkp 157 (by decide +kernel)).trans (ev_lit rfl)
        have k158 := (hkp 158 (by decide +kernel)).trans (ev_lit rfl)
        have k159 := (hkp 159 (by decide +kernel)).trans (ev_lit rfl)
        have k160 := (hkp 160 (by decide +kernel)).trans (ev_lit rfl)
        have k161 := (hkp 161 (by decide +kernel)).trans (ev_lit rfl)
        have k162 := (hkp 162 (by decide +kernel)).trans (ev_lit rfl)
        have k163 := (hkp 163 (by decide +kernel)).trans (ev_lit rfl)
        have k164 := (hkp 164 (by decide +kernel)).trans (ev_lit rfl)
        have k165 := (hkp 165 (by decide +kernel)).trans (ev_lit rfl)
        have k166 := (hkp 166 (by decide +kernel)).trans (ev_lit rfl)
        have k167 := (hkp 167 (by decide +kernel)).trans (ev_lit rfl)
        have k168 := (hkp 168 (by decide +kernel)).trans (ev_lit rfl)
        have k169 := (hkp 169 (by decide +kernel)).trans (ev_lit rfl)
        have k170 := (hkp 170 (by decide +kernel)).trans (ev_lit rfl)
        have k171 := (hkp 171 (by decide +kernel)).trans (ev_lit rfl)
        have k172 := (hkp 172 (by decide +kernel)).trans (ev_lit rfl)
        have k173 := (hkp 173 (by decide +kernel)).trans (ev_lit rfl)
        have k174 := (hkp 174 (by decide +kernel)).trans (ev_lit rfl)
        have k175 := (hkp 175 (by decide +kernel)).trans (ev_lit rfl)
        have k176 := (hkp 176 (by decide +kernel)).trans (ev_lit rfl)
        have k177 := (hkp 177 (by decide +kernel)).trans (ev_lit rfl)
        have k178 := (hkp 178 (by decide +kernel)).trans (ev_lit rfl)
        have k179 := (hkp 179 (by decide +kernel)).trans (ev_lit rfl)
        have k180 := (hkp 180 (by decide +kernel)).trans (ev_lit rfl)
        have k181 := (hkp 181 (by decide +kernel)).trans (ev_lit rfl)
        have k182 := (hkp 182 (by decide +kernel)).trans (ev_lit rfl)
        have k183 := (hkp 183 (by decide +kernel)).trans (ev_lit rfl)
        have k184 := (hkp 184 (by decide +kernel)).trans (ev_lit rfl)
        have k185 := (hkp 185 (by decide +kernel)).trans (ev_lit rfl)
        have k186 := (hkp 186 (by decide +kernel)).trans (ev_lit rfl)
        have k3 : a.eval (.tmp 3) = Value.string Z' := hr 19 3 (by decide +kernel)
        simp only [List.range, List.range.loop, List.map_cons, List.map_nil, k0, k1, k2, k4, k5, k6, k7, k8, k9, k10, k11, k12, k13, k14, k15, k16, k17, k18, k19, k20, k21, k22, k23, k24, k25, k26, k27, k28, k29, k30, k31, k32, k33, k34, k35, k36, k37, k38, k39, k40, k41, k42, k43, k44, k45, k46, k47, k48, k49, k50, k51, k52, k53, k54, k55, k56, k57, k58, k59, k60, k61, k62, k63, k64, k65, k66, k67, k68, k69, k70, k71, k72, k73, k74, k75, k76, k77, k78, k79, k80, k81, k82, k83, k84, k85, k86, k87, k88, k89, k90, k91, k92, k93, k94, k95, k96, k97, k98, k99, k100, k101, k102, k103, k104, k105, k106, k107, k108, k109, k110, k111, k112, k113, k114, k115, k116, k117, k118, k145, k146, k147, k148, k149, k150, k151, k152, k153, k154, k155, k156, k157, k158, k159, k160, k161, k162, k163, k164, k165, k166, k167, k168, k169, k170, k171, k172, k173, k174, k175, k176, k177, k178, k179, k180, k181, k182, k183, k184, k185, k186, k3] at ha
        clear k0 k1 k2 k4 k5 k6 k7 k8 k9 k10 k11 k12 k13 k14 k15 k16 k17 k18 k19 k20 k21 k22 k23 k24 k25 k26 k27 k28 k29 k30 k31 k32 k33 k34 k35 k36 k37 k38 k39 k40 k41 k42 k43 k44 k45 k46 k47 k48 k49 k50 k51 k52 k53 k54 k55 k56 k57 k58 k59 k60 k61 k62 k63 k64 k65 k66 k67 k68 k69 k70 k71 k72 k73 k74 k75 k76 k77 k78 k79 k80 k81 k82 k83 k84 k85 k86 k87 k88 k89 k90 k91 k92 k93 k94 k95 k96 k97 k98 k99 k100 k101 k102 k103 k104 k105 k106 k107 k108 k109 k110 k111 k112 k113 k114 k115 k116 k117 k118 k145 k146 k147 k148 k149 k150 k151 k152 k153 k154 k155 k156 k157 k158 k159 k160 k161 k162 k163 k164 k165 k166 k167 k168 k169 k170 k171 k172 k173 k174 k175 k176 k177 k178 k179 k180 k181 k182 k183 k184 k185 k186 k3 hsz hdf hkp hr hf
        generalize a.eval (.tmp 119) = v119 at ha
        generalize a.eval (.tmp 120) = v120 at ha
        generalize a.eval (.tmp 121) = v121 at ha
        generalize a.eval (.tmp 122) = v122 at ha
        generalize a.eval (.tmp 123) = v123 at ha
        generalize a.eval (.tmp 124) = v124 at ha
        generalize a.eval (.tmp 125) = v125 at ha
        generalize a.eval (.tmp 126) = v126 at ha
        generalize a.eval (.tmp 127) = v127 at ha
        generalize a.eval (.tmp 128) = v128 at ha
        generalize a.eval (.tmp 129) = v129 at ha
        generalize a.eval (.tmp 130) = v130 at ha
        generalize a.eval (.tmp 131) = v131 at ha
        generalize a.eval (.tmp 132) = v132 at ha
        generalize a.eval (.tmp 133) = v133 at ha
        generalize a.eval (.tmp 134) = v134 at ha
        generalize a.eval (.tmp 135) = v135 at ha
        generalize a.eval (.tmp 136) = v136 at ha
        generalize a.eval (.tmp 137) = v137 at ha
        generalize a.eval (.tmp 138) = v138 at ha
        generalize a.eval (.tmp 139) = v139 at ha
        generalize a.eval (.tmp 140) = v140 at ha
        generalize a.eval (.tmp 141) = v141 at ha
        generalize a.eval (.tmp 142) = v142 at ha
        generalize a.eval (.tmp 143) = v143 at ha
        generalize a.eval (.tmp 144) = v144 at ha
        subst ha
        refine hKK _ W ?_
        clear hKK
        go_wp2
        all_goals try (exfalso; omega)
        go_roundw
        case rel => exact ⟨j + 1, by simp, congrArg Value.string HZ'.out, by omega, HK.out⟩
        case measure => simp [intOf]; omega
      case neg =>
      obtain rfl : j = m.c.ports.length := by omega
      have hcp := HCP.out
      rw [← acc_full Y3 portL m.c.ports] at hcp
      have HCP := Lib.hid hcp
      have hP0 : (acc Y3 portL m.c.ports m.c.ports.length).size ≤ Y3.size + 16 * 3 := acc_size Y3 portL m.c.ports _ 3 16 (fun s _ => by simp only [portL, List.length_append, be_length]; omega) d4
      have J1 := Lib.hid (fun W => rput_at 4 m.c.cpu W (by decide) (by omega) (by omega))
      have J2 := Lib.hid (fun W => rput_at 4 m.c.mem W (by decide) (by omega) (by omega))
      have J3 := Lib.hid (fun W => rput_at 1 (m.c.env.length : Int) W (by decide) (by omega) (by omega))
      rw [show (4 : Int).toNat = 4 from rfl] at J1 J2
      rw [show (1 : Int).toNat = 1 from rfl, Int.toNat_natCast] at J3
      have w1 : IntKind.u64.wrap m.c.cpu = m.c.cpu := wrap_u64' (by omega) (by omega)
      have w2 : IntKind.u64.wrap m.c.mem = m.c.mem := wrap_u64' (by omega) (by omega)
      have w3 : IntKind.u64.wrap (m.c.env.length : Int) = (m.c.env.length : Int) := wrap_u64' (by omega) (by omega)
      have z1 : (beS 4 m.c.cpu.toNat).size = 4 := beS_size _ _
      have z2 : (beS 4 m.c.mem.toNat).size = 4 := beS_size _ _
      have z3 : (beS 1 m.c.env.length).size = 1 := beS_size _ _
      clear hcp
      generalize acc Y3 portL m.c.ports m.c.ports.length = P0 at *
      generalize beS 4 m.c.cpu.toNat = A1 at *
      generalize beS 4 m.c.mem.toNat = A2 at *
      generalize beS 1 m.c.env.length = A3 at *
      have s4 : (P0 ++ A1).size ≤ P0.size + 4 := by rw [ByteArray.size_append]; omega
      have s5 : (P0 ++ A1 ++ A2).size ≤ P0.size + 8 := by rw [ByteArray.size_append]; omega
      have s6 : (P0 ++ A1 ++ A2 ++ A3).size ≤ P0.size + 9 := by rw [ByteArray.size_append]; omega
      have a1 := add_run P0 A1 _ (by omega) rfl
      have a2 := add_run (P0 ++ A1) A2 _ (by omega) rfl
      have a3 := add_run (P0 ++ A1 ++ A2) A3 _ (by omega) rfl
      generalize P0 ++ A1 ++ A2 ++ A3 = P3 at *
      generalize P0 ++ A1 ++ A2 = PB at *
      generalize P0 ++ A1 = PA at *
      go_wp2_with (fail)
      all_goals try (exfalso; omega)
      clear q0 q1 q2 q3 q4 q5 q6
      have HK := Lib.hid (HFj.out.drew)
      rename_i KK hKK
      refine flowM_region [some (Value.string P0), some (Value.pointer (some ⟨q, 4, none⟩)), some (Value.int .i64 m.c.cpu), some (Value.int .u64 m.c.cpu), some (Value.string A1), some (Value.string PA), some (Value.pointer (some ⟨q, 5, none⟩)), some (Value.int .i64 m.c.mem), some (Value.int .u64 m.c.mem), some (Value.string A2), some (Value.string PB), some (Value.pointer (some ⟨q, 6, none⟩)), some (Value.slice m.ea m.c.env.length m.ec), some (Value.int .i64 (m.c.env.length : Int)), some (Value.int .u64 (m.c.env.length : Int)), some (Value.string A3), some (Value.string P3), some (Value.string P3)] (fun _ _ _ => False) rfl (n := 187) rfl (by decide +kernel) (fun _ _ _ _ h _ => h) ⟨?_, ?_, ?_, ?_, ?_, ?_, ?_, ?_, ?_, ?_, ?_, ?_, ?_, ?_, ?_, ?_, ?_, ?_, trivial⟩ ?_
      · intro a W hf hin hst
        have g3 := ev_get (show a.eval (.tmp 3) = Value.string P0 from hst 3 (by decide +kernel))
        refine .inl ⟨Value.string P0, W, ?_, .refl _, rfl⟩
        simp [execOp, g3, go_sem]
      · intro a W hf hin hst
        have g7 := ev_get (show a.eval (.tmp 7) = Value.pointer (some ⟨q, 0, none⟩) from hst 7 (by decide +kernel))
        refine .inl ⟨Value.pointer (some ⟨q, 4, none⟩), W, ?_, .refl _, rfl⟩
        simp [execOp, g7, go_sem]
      · intro a W hf hin hst
        obtain ⟨q0, q1, q2, q3, q4, q5, q6⟩ := HQ.out W (HK.out.trans hf)
        have g146 := ev_get (show a.eval (.tmp 146) = Value.pointer (some ⟨q, 4, none⟩) from hin 1 146 (by decide +kernel) (by decide +kernel))
        refine .inl ⟨Value.int .i64 m.c.cpu, W, ?_, .refl _, rfl⟩
        simp [execOp, g146, go_sem, q0, q1, q2, q3, q4, q5, q6]
      · intro a W hf hin hst
        have g147 := ev_get (show a.eval (.tmp 147) = Value.int .i64 m.c.cpu from hin 2 147 (by decide +kernel) (by decide +kernel))
        refine .inl ⟨Value.int .u64 m.c.cpu, W, ?_, .refl _, rfl⟩
        simp [execOp, g147, go_sem, w1]
      · intro a W hf hin hst
        have g148 := ev_get (show a.eval (.tmp 148) = Value.int .u64 m.c.cpu from hin 3 148 (by decide +kernel) (by decide +kernel))
        exact .inr ⟨50, #[.int .i64 4, .int .u64 m.c.cpu], by simp [execOp, g148, go_sem], (J1.out W).mono (fun e V h => ⟨_, h.1, h.2, rfl⟩)⟩
      · intro a W hf hin hst
        have g145 := ev_get (show a.eval (.tmp 145) = Value.string P0 from hin 0 145 (by decide +kernel) (by decide +kernel))
        have g149 := ev_get (show a.eval (.tmp 149) = Value.string A1 from hin 4 149 (by decide +kernel) (by decide +kernel))
        refine .inl ⟨Value.string PA, W, ?_, .refl _, rfl⟩
        simp [execOp, g145, g149, go_sem, a1]
      · intro a W hf hin hst
        have g7 := ev_get (show a.eval (.tmp 7) = Value.pointer (some ⟨q, 0, none⟩) from hst 7 (by decide +kernel))
        refine .inl ⟨Value.pointer (some ⟨q, 5, none⟩), W, ?_, .refl _, rfl⟩
        simp [execOp, g7, go_sem]
      · intro a W hf hin hst
        obtain ⟨q0, q1, q2, q3, q4, q5, q6⟩ := HQ.out W (HK.out.trans hf)
        have g151 := ev_get (show a.eval (.tmp 151) = Value.pointer (some ⟨q, 5, none⟩) from hin 6 151 (by decide +kernel) (by decide +kernel))
        refine .inl ⟨Value.int .i64 m.c.mem, W, ?_, .refl _, rfl⟩
        simp [execOp, g151, go_sem, q0, q1, q2, q3, q4, q5, q6]
      · intro a W hf hin hst
        have g152 := ev_get (show a.eval (.tmp 152) = Value.int .i64 m.c.mem from hin 7 152 (by decide +kernel) (by decide +kernel))
        refine .inl ⟨Value.int .u64 m.c.mem, W, ?_, .refl _, rfl⟩
        simp [execOp, g152, go_sem, w2]
      · intro a W hf hin hst
        have g153 := ev_get (show a.eval (.tmp 153) = Value.int .u64 m.c.mem from hin 8 153 (by decide +kernel) (by decide +kernel))
        exact .inr ⟨50, #[.int .i64 4, .int .u64 m.c.mem], by simp [execOp, g153, go_sem], (J2.out W).mono (fun e V h => ⟨_, h.1, h.2, rfl⟩)⟩
      · intro a W hf hin hst
        have g150 := ev_get (show a.eval (.tmp 150) = Value.string PA from hin 5 150 (by decide +kernel) (by decide +kernel))
        have g154 := ev_get (show a.eval (.tmp 154) = Value.string A2 from hin 9 154 (by decide +kernel) (by decide +kernel))
        refine .inl ⟨Value.string PB, W, ?_, .refl _, rfl⟩
        simp [execOp, g150, g154, go_sem, a2]
      · intro a W hf hin hst
        have g7 := ev_get (show a.eval (.tmp 7) = Value.pointer (some ⟨q, 0, none⟩) from hst 7 (by decide +kernel))
        refine .inl ⟨Value.pointer (some ⟨q, 6, none⟩), W, ?_, .refl _, rfl⟩
        simp [execOp, g7, go_sem]
      · intro a W hf hin hst
        obtain ⟨q0, q1, q2, q3, q4, q5, q6⟩ := HQ.out W (HK.out.trans hf)
        have g156 := ev_get (show a.eval (.tmp 156) = Value.pointer (some ⟨q, 6, none⟩) from hin 11 156 (by decide +kernel) (by decide +kernel))
        refine .inl ⟨Value.slice m.ea m.c.env.length m.ec, W, ?_, .refl _, rfl⟩
        simp [execOp, g156, go_sem, q0, q1, q2, q3, q4, q5, q6]
      · intro a W hf hin hst
        have g157 := ev_get (show a.eval (.tmp 157) = Value.slice m.ea m.c.env.length m.ec from hin 12 157 (by decide +kernel) (by decide +kernel))
        refine .inl ⟨Value.int .i64 (m.c.env.length : Int), W, ?_, .refl _, rfl⟩
        simp [execOp, g157, go_sem]
      · intro a W hf hin hst
        have g158 := ev_get (show a.eval (.tmp 158) = Value.int .i64 (m.c.env.length : Int) from hin 13 158 (by decide +kernel) (by decide +kernel))
        refine .inl ⟨Value.int .u64 (m.c.env.length : Int), W, ?_, .refl _, rfl⟩
        simp [execOp, g158, go_sem, w3]
      · intro a W hf hin hst
        have g159 := ev_get (show a.eval (.tmp 159) = Value.int .u64 (m.c.env.length : Int) from hin 14 159 (by decide +kernel) (by decide +kernel))
        exact .inr ⟨50, #[.int .i64 1, .int .u64 (m.c.env.length : Int)], by simp [execOp, g159, go_sem], (J3.out W).mono (fun e V h => ⟨_, h.1, h.2, rfl⟩)⟩
      · intro a W hf hin hst
        have g155 := ev_get (show a.eval (.tmp 155) = Value.string PB from hin 10 155 (by decide +kernel) (by decide +kernel))
        have g160 := ev_get (show a.eval (.tmp 160) = Value.string A3 from hin 15 160 (by decide +kernel) (by decide +kernel))
        refine .inl ⟨Value.string P3, W, ?_, .refl _, rfl⟩
        simp [execOp, g155, g160, go_sem, a3]
      · intro a W hf hin hst
        have g161 := ev_get (show a.eval (.tmp 161) = Value.string P3 from hin 16 161 (by decide +kernel) (by decide +kernel))
        refine .inl ⟨Value.string P3, W, ?_, .refl _, rfl⟩
        simp [execOp, g161, go_sem]
      intro a W hsz hdf hf hkp hr
      have HK := Lib.hid (HK.out.trans hf)
      have ha := act_lit (n := 187) hsz hdf
      have k0 := (hkp 0 (by decide +kernel)).trans (ev_lit rfl)
      have k1 := (hkp 1 (by decide +kernel)).trans (ev_lit rfl)
      have k2 := (hkp 2 (by decide +kernel)).trans (ev_lit rfl)
      have k4 := (hkp 4 (by decide +kernel)).trans (ev_lit rfl)
      have k5 := (hkp 5 (by decide +kernel)).trans (ev_lit rfl)
      have k6 := (hkp 6 (by decide +kernel)).trans (ev_lit rfl)
      have k7 := (hkp 7 (by decide +kernel)).trans (ev_lit rfl)
      have k11 := (hkp 11 (by decide +kernel)).trans (ev_lit rfl)
      have k12 := (hkp 12 (by decide +kernel)).trans (ev_lit rfl)
      have k13 := (hkp 13 (by decide +kernel)).trans (ev_lit rfl)
      have k14 := (hkp 14 (by decide +kernel)).trans (ev_lit rfl)
      have k15 := (hkp 15 (by decide +kernel)).trans (ev_lit rfl)
      have k16 := (hkp 16 (by decide +kernel)).trans (ev_lit rfl)
      have k17 := (hkp 17 (by decide +kernel)).trans (ev_lit rfl)
      have k18 := (hkp 18 (by decide +kernel)).trans (ev_lit rfl)
      have k19 := (hkp 19 (by decide +kernel)).trans (ev_lit rfl)
      have k20 := (hkp 20 (by decide +kernel)).trans (ev_lit rfl)
      have k21 := (hkp 21 (by decide +kernel)).trans (ev_lit rfl)
      have k22 := (hkp 22 (by decide +kernel)).trans (ev_lit rfl)
      have k23 := (hkp 23 (by decide +kernel)).trans (ev_lit rfl)
      have k24 := (hkp 24 (by decide +kernel)).trans (ev_lit rfl)
      have k25 := (hkp 25 (by decide +kernel)).trans (ev_lit rfl)
      have k26 := (hkp 26 (by decide +kernel)).trans (ev_lit rfl)
      have k27 := (hkp 27 (by decide +kernel)).trans (ev_lit rfl)
      have k28 := (hkp 28 (by decide +kernel)).trans (ev_lit rfl)
      have k29 := (hkp 29 (by decide +kernel)).trans (ev_lit rfl)
      have k30 := (hkp 30 (by decide +kernel)).trans (ev_lit rfl)
      have k31 := (hkp 31 (by decide +kernel)).trans (ev_lit rfl)
      have k32 := (hkp 32 (by decide +kernel)).trans (ev_lit rfl)
      have k33 := (hkp 33 (by decide +kernel)).trans (ev_lit rfl)
      have k34 := (hkp 34 (by decide +kernel)).trans (ev_lit rfl)
      have k35 := (hkp 35 (by decide +kernel)).trans (ev_lit rfl)
      have k36 := (hkp 36 (by decide +kernel)).trans (ev_lit rfl)
      have k37 := (hkp 37 (by decide +kernel)).trans (ev_lit rfl)
      have k38 := (hkp 38 (by decide +kernel)).trans (ev_lit rfl)
      have k39 := (hkp 39 (by decide +kernel)).trans (ev_lit rfl)
      have k40 := (hkp 40 (by decide +kernel)).trans (ev_lit rfl)
      have k41 := (hkp 41 (by decide +kernel)).trans (ev_lit rfl)
      have k42 := (hkp 42 (by decide +kernel)).trans (ev_lit rfl)
      have k43 := (hkp 43 (by decide +kernel)).trans (ev_lit rfl)
      have k44 := (hkp 44 (by decide +kernel)).trans (ev_lit rfl)
      have k45 := (hkp 45 (by decide +kernel)).trans (ev_lit rfl)
      have k46 := (hkp 46 (by decide +kernel)).trans (ev_lit rfl)
      have k47 := (hkp 47 (by decide +kernel)).trans (ev_lit rfl)
      have k48 := (hkp 48 (by decide +kernel)).trans (ev_lit rfl)
      have k49 := (hkp 49 (by decide +kernel)).trans (ev_lit rfl)
      have k50 := (hkp 50 (by decide +kernel)).trans (ev_lit rfl)
      have k51 := (hkp 51 (by decide +kernel)).trans (ev_lit rfl)
      have k52 := (hkp 52 (by decide +kernel)).trans (ev_lit rfl)
      have k53 := (hkp 53 (by decide +kernel)).trans (ev_lit rfl)
      have k54 := (hkp 54 (by decide +kernel)).trans (ev_lit rfl)
      have k55 := (hkp 55 (by decide +kernel)).trans (ev_lit rfl)
      have k56 := (hkp 56 (by decide +kernel)).trans (ev_lit rfl)
      have k57 := (hkp 57 (by decide +kernel)).trans (ev_lit rfl)
      have k58 := (hkp 58 (by decide +kernel)).trans (ev_lit rfl)
      have k59 := (hkp 59 (by decide +kernel)).trans (ev_lit rfl)
      have k60 := (hkp 60 (by decide +kernel)).trans (ev_lit rfl)
      have k61 := (hkp 61 (by decide +kernel)).trans (ev_lit rfl)
      have k62 := (hkp 62 (by decide +kernel)).trans (ev_lit rfl)
      have k63 := (hkp 63 (by decide +kernel)).trans (ev_lit rfl)
      have k64 := (hkp 64 (by decide +kernel)).trans (ev_lit rfl)
      have k65 := (hkp 65 (by decide +kernel)).trans (ev_lit rfl)
      have k66 := (hkp 66 (by decide +kernel)).trans (ev_lit rfl)
      have k67 := (hkp 67 (by decide +kernel)).trans (ev_lit rfl)
      have k68 := (hkp 68 (by decide +kernel)).trans (ev_lit rfl)
      have k69 := (hkp 69 (by decide +kernel)).trans (ev_lit rfl)
      have k186 := (hkp 186 (by decide +kernel)).trans (ev_lit rfl)
      have k3 : a.eval (.tmp 3) = Value.string P3 := hr 17 3 (by decide +kernel)
      simp only [List.range, List.range.loop, List.map_cons, List.map_nil, k0, k1, k2, k4, k5, k6, k7, k11, k12, k13, k14, k15, k16, k17, k18, k19, k20, k21, k22, k23, k24, k25, k26, k27, k28, k29, k30, k31, k32, k33, k34, k35, k36, k37, k38, k39, k40, k41, k42, k43, k44, k45, k46, k47, k48, k49, k50, k51, k52, k53, k54, k55, k56, k57, k58, k59, k60, k61, k62, k63, k64, k65, k66, k67, k68, k69, k186, k3] at ha
      clear k0 k1 k2 k4 k5 k6 k7 k11 k12 k13 k14 k15 k16 k17 k18 k19 k20 k21 k22 k23 k24 k25 k26 k27 k28 k29 k30 k31 k32 k33 k34 k35 k36 k37 k38 k39 k40 k41 k42 k43 k44 k45 k46 k47 k48 k49 k50 k51 k52 k53 k54 k55 k56 k57 k58 k59 k60 k61 k62 k63 k64 k65 k66 k67 k68 k69 k186 k3 hsz hdf hkp hr hf
      generalize a.eval (.tmp 8) = v8 at ha
      generalize a.eval (.tmp 9) = v9 at ha
      generalize a.eval (.tmp 10) = v10 at ha
      generalize a.eval (.tmp 70) = v70 at ha
      generalize a.eval (.tmp 71) = v71 at ha
      generalize a.eval (.tmp 72) = v72 at ha
      generalize a.eval (.tmp 73) = v73 at ha
      generalize a.eval (.tmp 74) = v74 at ha
      generalize a.eval (.tmp 75) = v75 at ha
      generalize a.eval (.tmp 76) = v76 at ha
      generalize a.eval (.tmp 77) = v77 at ha
      generalize a.eval (.tmp 78) = v78 at ha
      generalize a.eval (.tmp 79) = v79 at ha
      generalize a.eval (.tmp 80) = v80 at ha
      generalize a.eval (.tmp 81) = v81 at ha
      generalize a.eval (.tmp 82) = v82 at ha
      generalize a.eval (.tmp 83) = v83 at ha
      generalize a.eval (.tmp 84) = v84 at ha
      generalize a.eval (.tmp 85) = v85 at ha
      generalize a.eval (.tmp 86) = v86 at ha
      generalize a.eval (.tmp 87) = v87 at ha
      generalize a.eval (.tmp 88) = v88 at ha
      generalize a.eval (.tmp 89) = v89 at ha
      generalize a.eval (.tmp 90) = v90 at ha
      generalize a.eval (.tmp 91) = v91 at ha
      generalize a.eval (.tmp 92) = v92 at ha
      generalize a.eval (.tmp 93) = v93 at ha
      generalize a.eval (.tmp 94) = v94 at ha
      generalize a.eval (.tmp 95) = v95 at ha
      generalize a.eval (.tmp 96) = v96 at ha
      generalize a.eval (.tmp 97) = v97 at ha
      generalize a.eval (.tmp 98) = v98 at ha
      generalize a.eval (.tmp 99) = v99 at ha
      generalize a.eval (.tmp 100) = v100 at ha
      generalize a.eval (.tmp 101) = v101 at ha
      generalize a.eval (.tmp 102) = v102 at ha
      generalize a.eval (.tmp 103) = v103 at ha
      generalize a.eval (.tmp 104) = v104 at ha
      generalize a.eval (.tmp 105) = v105 at ha
      generalize a.eval (.tmp 106) = v106 at ha
      generalize a.eval (.tmp 107) = v107 at ha
      generalize a.eval (.tmp 108) = v108 at ha
      generalize a.eval (.tmp 109) = v109 at ha
      generalize a.eval (.tmp 110) = v110 at ha
      generalize a.eval (.tmp 111) = v111 at ha
      generalize a.eval (.tmp 112) = v112 at ha
      generalize a.eval (.tmp 113) = v113 at ha
      generalize a.eval (.tmp 114) = v114 at ha
      generalize a.eval (.tmp 115) = v115 at ha
      generalize a.eval (.tmp 116) = v116 at ha
      generalize a.eval (.tmp 117) = v117 at ha
      generalize a.eval (.tmp 118) = v118 at ha
      generalize a.eval (.tmp 119) = v119 at ha
      generalize a.eval (.tmp 120) = v120 at ha
      generalize a.eval (.tmp 121) = v121 at ha
      generalize a.eval (.tmp 122) = v122 at ha
      generalize a.eval (.tmp 123) = v123 at ha
      generalize a.eval (.tmp 124) = v124 at ha
      generalize a.eval (.tmp 125) = v125 at ha
      generalize a.eval (.tmp 126) = v126 at ha
      generalize a.eval (.tmp 127) = v127 at ha
      generalize a.eval (.tmp 128) = v128 at ha
      generalize a.eval (.tmp 129) = v129 at ha
      generalize a.eval (.tmp 130) = v130 at ha
      generalize a.eval (.tmp 131) = v131 at ha
      generalize a.eval (.tmp 132) = v132 at ha
      generalize a.eval (.tmp 133) = v133 at ha
      generalize a.eval (.tmp 134) = v134 at ha
      generalize a.eval (.tmp 135) = v135 at ha
      generalize a.eval (.tmp 136) = v136 at ha
      generalize a.eval (.tmp 137) = v137 at ha
      generalize a.eval (.tmp 138) = v138 at ha
      generalize a.eval (.tmp 139) = v139 at ha
      generalize a.eval (.tmp 140) = v140 at ha
      generalize a.eval (.tmp 141) = v141 at ha
      generalize a.eval (.tmp 142) = v142 at ha
      generalize a.eval (.tmp 143) = v143 at ha
      generalize a.eval (.tmp 144) = v144 at ha
      generalize a.eval (.tmp 145) = v145 at ha
      generalize a.eval (.tmp 146) = v146 at ha
      generalize a.eval (.tmp 147) = v147 at ha
      generalize a.eval (.tmp 148) = v148 at ha
      generalize a.eval (.tmp 149) = v149 at ha
      generalize a.eval (.tmp 150) = v150 at ha
      generalize a.eval (.tmp 151) = v151 at ha
      generalize a.eval (.tmp 152) = v152 at ha
      generalize a.eval (.tmp 153) = v153 at ha
      generalize a.eval (.tmp 154) = v154 at ha
      generalize a.eval (.tmp 155) = v155 at ha
      generalize a.eval (.tmp 156) = v156 at ha
      generalize a.eval (.tmp 157) = v157 at ha
      generalize a.eval (.tmp 158) = v158 at ha
      generalize a.eval (.tmp 159) = v159 at ha
      generalize a.eval (.tmp 160) = v160 at ha
      generalize a.eval (.tmp 161) = v161 at ha
      generalize a.eval (.tmp 162) = v162 at ha
      generalize a.eval (.tmp 163) = v163 at ha
      generalize a.eval (.tmp 164) = v164 at ha
      generalize a.eval (.tmp 165) = v165 at ha
      generalize a.eval (.tmp 166) = v166 at ha
      generalize a.eval (.tmp 167) = v167 at ha
      generalize a.eval (.tmp 168) = v168 at ha
      generalize a.eval (.tmp 169) = v169 at ha
      generalize a.eval (.tmp 170) = v170 at ha
      generalize a.eval (.tmp 171) = v171 at ha
      generalize a.eval (.tmp 172) = v172 at ha
      generalize a.eval (.tmp 173) = v173 at ha
      generalize a.eval (.tmp 174) = v174 at ha
      generalize a.eval (.tmp 175) = v175 at ha
      generalize a.eval (.tmp 176) = v176 at ha
      generalize a.eval (.tmp 177) = v177 at ha
      generalize a.eval (.tmp 178) = v178 at ha
      generalize a.eval (.tmp 179) = v179 at ha
      generalize a.eval (.tmp 180) = v180 at ha
      generalize a.eval (.tmp 181) = v181 at ha
      generalize a.eval (.tmp 182) = v182 at ha
      generalize a.eval (.tmp 183) = v183 at ha
      generalize a.eval (.tmp 184) = v184 at ha
      generalize a.eval (.tmp 185) = v185 at ha
      subst ha
      refine hKK _ W ?_
      clear a1 a2 a3 w1 w2 w3 J1 J2 J3 hKK HFj
      go_wp2
      go_loopw [3, 10] (fun a3 a10 wv => ∃ (j : Nat), a10 = .int .i64 (j : Int) ∧ a3 = .string (acc P3 envL m.c.env j) ∧ j ≤ m.c.env.length ∧ Hid (Fresh V2 wv)) (fun _ a10 _ => m.c.env.length - (intOf a10).toNat)
      case atStart => exact ⟨0, rfl, by rw [acc_zero], Nat.zero_le _, HK.out⟩
      case round =>
      clear HK
      obtain ⟨j, rfl, rfl, hj, HFj⟩ := hrel
      obtain ⟨q0, q1, q2, q3, q4, q5, q6⟩ := HQ.out _ HFj.out
      by_cases hjl : j < m.c.env.length
      case pos =>
        obtain ⟨ge, oe, e3, hcp⟩ := erow_form HMI.out.env hjl
        obtain ⟨r0, r1⟩ := hcp j hjl
        obtain ⟨g1, g2⟩ := HOK.out.env _ (List.getElem_mem hjl)
        have HS : Hid (acc P3 envL m.c.env (j + 1) = acc P3 envL m.c.env j ++ tx (envL m.c.env[j])) := acc_succ _ _ hjl
        have HPP := Lib.hid (env_parts (acc P3 envL m.c.env j) m.c.env[j])
        have hZ : (acc P3 envL m.c.env j).size ≤ P3.size + 16 * 4163 := acc_size P3 envL m.c.env j 4163 16 (fun s hs => by simp only [envL, List.length_append, txtL_len]; have := HOK.out.env s hs; omega) d5
        clear hcp
        generalize m.c.env[j] = x at *
        obtain ⟨p1, p2⟩ := x
        dsimp only at r0 r1 g1 g2 HPP
        have J1 := Lib.hid (fun W => rtext_tx p1 W (by omega))
        have J2 := Lib.hid (fun W => rtext_tx p2 W (by omega))
        have z1 : (tx (txtL p1)).size ≤ 4098 := by rw [tx_size, txtL_len]; omega
        have z2 : (tx (txtL p2)).size ≤ 4098 := by rw [tx_size, txtL_len]; omega
        rw [← HS.out] at HPP
        generalize tx (txtL p1) = A1 at *
        generalize tx (txtL p2) = A2 at *
        generalize acc P3 envL m.c.env j = Z at *
        obtain ⟨Z', hZ'⟩ : ∃ Z', Z' = acc P3 envL m.c.env (j + 1) := ⟨_, rfl⟩
        rw [← hZ'] at HPP
        have HZ' := Lib.hid hZ'
        clear hZ' HS
        have s7 : (Z ++ A1).size ≤ Z.size + 4098 := by rw [ByteArray.size_append]; omega
        have a1 := add_run Z A1 _ (by omega) rfl
        generalize Z ++ A1 = ZA at *
        have a2 := add_run ZA A2 Z' (by omega) HPP.out
        have i1 : (0 : Int) ≤ (j : Int) := by omega
        have i2 : (j : Int) < (m.c.env.length : Int) := by omega
        have HR : Hid (∀ W, Fresh V2 W → W.cell? ⟨q, 6, none⟩ = some (.slice (some ⟨ge, oe, none⟩) m.c.env.length m.ec) ∧ W.cell? ⟨ge, oe + j * 2, none⟩ = some (.string p1) ∧ W.cell? ⟨ge, oe + j * 2 + 1, none⟩ = some (.string p2)) := fun W f =>
          ⟨by rw [(HQ.out W f).2.2.2.2.2.2, e3], f.cell r0, f.cell r1⟩
        clear r0 r1 e3
        go_wp2_with (fail)
        all_goals try (exfalso; omega)
        clear q0 q1 q2 q3 q4 q5 q6
        have HK := Lib.hid (HFj.out.drew)
        rename_i KK hKK
        refine flowM_region [some (Value.string Z), some (Value.pointer (some ⟨q, 6, none⟩)), some (Value.slice (some ⟨ge, oe, none⟩) m.c.env.length m.ec), some (Value.int .i64 (j : Int)), some (Value.pointer (some ⟨ge, oe + j * 2, none⟩)), some (Value.pointer (some ⟨ge, oe + j * 2, none⟩)), some (Value.string p1), some (Value.string A1), some (Value.string ZA), some (Value.pointer (some ⟨q, 6, none⟩)), some (Value.slice (some ⟨ge, oe, none⟩) m.c.env.length m.ec), some (Value.int .i64 (j : Int)), some (Value.pointer (some ⟨ge, oe + j * 2, none⟩)), some (Value.pointer (some ⟨ge, oe + j * 2 + 1, none⟩)), some (Value.string p2), some (Value.string A2), some (Value.string Z'), some (Value.string Z')] (fun _ _ _ => False) rfl (n := 187) rfl (by decide +kernel) (fun _ _ _ _ h _ => h) ⟨?_, ?_, ?_, ?_, ?_, ?_, ?_, ?_, ?_, ?_, ?_, ?_, ?_, ?_, ?_, ?_, ?_, ?_, trivial⟩ ?_
        · intro a W hf hin hst
          have g3 := ev_get (show a.eval (.tmp 3) = Value.string Z from hst 3 (by decide +kernel))
          refine .inl ⟨Value.string Z, W, ?_, .refl _, rfl⟩
          simp [execOp, g3, go_sem]
        · intro a W hf hin hst
          have g7 := ev_get (show a.eval (.tmp 7) = Value.pointer (some ⟨q, 0, none⟩) from hst 7 (by decide +kernel))
          refine .inl ⟨Value.pointer (some ⟨q, 6, none⟩), W, ?_, .refl _, rfl⟩
          simp [execOp, g7, go_sem]
        · intro a W hf hin hst
          obtain ⟨q6, r0, r1⟩ := HR.out W (HK.out.trans hf)
          have g170 := ev_get (show a.eval (.tmp 170) = Value.pointer (some ⟨q, 6, none⟩) from hin 1 170 (by decide +kernel) (by decide +kernel))
          refine .inl ⟨Value.slice (some ⟨ge, oe, none⟩) m.c.env.length m.ec, W, ?_, .refl _, rfl⟩
          simp [execOp, g170, go_sem, q6, r0, r1]
        · intro a W hf hin hst
          have g10 := ev_get (show a.eval (.tmp 10) = Value.int .i64 (j : Int) from hst 10 (by decide +kernel))
          refine .inl ⟨Value.int .i64 (j : Int), W, ?_, .refl _, rfl⟩
          simp [execOp, g10, go_sem]
        · intro a W hf hin hst
          have g171 := ev_get (show a.eval (.tmp 171) = Value.slice (some ⟨ge, oe, none⟩) m.c.env.length m.ec from hin 2 171 (by decide +kernel) (by decide +kernel))
          have g172 := ev_get (show a.eval (.tmp 172) = Value.int .i64 (j : Int) from hin 3 172 (by decide +kernel) (by decide +kernel))
          refine .inl ⟨Value.pointer (some ⟨ge, oe + j * 2, none⟩), W, ?_, .refl _, rfl⟩
          simp [execOp, g171, g172, go_sem, i1, i2]
        · intro a W hf hin hst
          have g173 := ev_get (show a.eval (.tmp 173) = Value.pointer (some ⟨ge, oe + j * 2, none⟩) from hin 4 173 (by decide +kernel) (by decide +kernel))
          refine .inl ⟨Value.pointer (some ⟨ge, oe + j * 2, none⟩), W, ?_, .refl _, rfl⟩
          simp [execOp, g173, go_sem]
        · intro a W hf hin hst
          obtain ⟨q6, r0, r1⟩ := HR.out W (HK.out.trans hf)
          have g174 := ev_get (show a.eval (.tmp 174) = Value.pointer (some ⟨ge, oe + j * 2, none⟩) from hin 5 174 (by decide +kernel) (by decide +kernel))
          refine .inl ⟨Value.string p1, W, ?_, .refl _, rfl⟩
          simp [execOp, g174, go_sem, q6, r0, r1]
        · intro a W hf hin hst
          have g175 := ev_get (show a.eval (.tmp 175) = Value.string p1 from hin 6 175 (by decide +kernel) (by decide +kernel))
          exact .inr ⟨51, #[Value.string p1], by simp [execOp, g175, go_sem], (J1.out W).mono (fun e V h => ⟨_, h.1, h.2, rfl⟩)⟩
        · intro a W hf hin hst
          have g169 := ev_get (show a.eval (.tmp 169) = Value.string Z from hin 0 169 (by decide +kernel) (by decide +kernel))
          have g176 := ev_get (show a.eval (.tmp 176) = Value.string A1 from hin 7 176 (by decide +kernel) (by decide +kernel))
          refine .inl ⟨Value.string ZA, W, ?_, .refl _, rfl⟩
          simp [execOp, g169, g176, go_sem, a1]
        · intro a W hf hin hst
          have g7 := ev_get (show a.eval (.tmp 7) = Value.pointer (some ⟨q, 0, none⟩) from hst 7 (by decide +kernel))
          refine .inl ⟨Value.pointer (some ⟨q, 6, none⟩), W, ?_, .refl _, rfl⟩
          simp [execOp, g7, go_sem]
        · intro a W hf hin hst
          obtain ⟨q6, r0, r1⟩ := HR.out W (HK.out.trans hf)
          have g178 := ev_get (show a.eval (.tmp 178) = Value.pointer (some ⟨q, 6, none⟩) from hin 9 178 (by decide +kernel) (by decide +kernel))
          refine .inl ⟨Value.slice (some ⟨ge, oe, none⟩) m.c.env.length m.ec, W, ?_, .refl _, rfl⟩
          simp [execOp, g178, go_sem, q6, r0, r1]
        · intro a W hf hin hst
          have g10 := ev_get (show a.eval (.tmp 10) = Value.int .i64 (j : Int) from hst 10 (by decide +kernel))
          refine .inl ⟨Value.int .i64 (j : Int), W, ?_, .refl _, rfl⟩
          simp [execOp, g10, go_sem]
        · intro a W hf hin hst
          have g179 := ev_get (show a.eval (.tmp 179) = Value.slice (some ⟨ge, oe, none⟩) m.c.env.length m.ec from hin 10 179 (by decide +kernel) (by decide +kernel))
          have g180 := ev_get (show a.eval (.tmp 180) = Value.int .i64 (j : Int) from hin 11 180 (by decide +kernel) (by decide +kernel))
          refine .inl ⟨Value.pointer (some ⟨ge, oe + j * 2, none⟩), W, ?_, .refl _, rfl⟩
          simp [execOp, g179, g180, go_sem, i1, i2]
        · intro a W hf hin hst
          have g181 := ev_get (show a.eval (.tmp 181) = Value.pointer (some ⟨ge, oe + j * 2, none⟩) from hin 12 181 (by decide +kernel) (by decide +kernel))
          refine .inl ⟨Value.pointer (some ⟨ge, oe + j * 2 + 1, none⟩), W, ?_, .refl _, rfl⟩
          simp [execOp, g181, go_sem]
        · intro a W hf hin hst
          obtain ⟨q6, r0, r1⟩ := HR.out W (HK.out.trans hf)
          have g182 := ev_get (show a.eval (.tmp 182) = Value.pointer (some ⟨ge, oe + j * 2 + 1, none⟩) from hin 13 182 (by decide +kernel) (by decide +kernel))
          refine .inl ⟨Value.string p2, W, ?_, .refl _, rfl⟩
          simp [execOp, g182, go_sem, q6, r0, r1]
        · intro a W hf hin hst
          have g183 := ev_get (show a.eval (.tmp 183) = Value.string p2 from hin 14 183 (by decide +kernel) (by decide +kernel))
          exact .inr ⟨51, #[Value.string p2], by simp [execOp, g183, go_sem], (J2.out W).mono (fun e V h => ⟨_, h.1, h.2, rfl⟩)⟩
        · intro a W hf hin hst
          have g177 := ev_get (show a.eval (.tmp 177) = Value.string ZA from hin 8 177 (by decide +kernel) (by decide +kernel))
          have g184 := ev_get (show a.eval (.tmp 184) = Value.string A2 from hin 15 184 (by decide +kernel) (by decide +kernel))
          refine .inl ⟨Value.string Z', W, ?_, .refl _, rfl⟩
          simp [execOp, g177, g184, go_sem, a2]
        · intro a W hf hin hst
          have g185 := ev_get (show a.eval (.tmp 185) = Value.string Z' from hin 16 185 (by decide +kernel) (by decide +kernel))
          refine .inl ⟨Value.string Z', W, ?_, .refl _, rfl⟩
          simp [execOp, g185, go_sem]
        intro a W hsz hdf hf hkp hr
        have HK := Lib.hid (HK.out.trans hf)
        have ha := act_lit (n := 187) hsz hdf
        have k0 := (hkp 0 (by decide +kernel)).trans (ev_lit rfl)
        have k1 := (hkp 1 (by decide +kernel)).trans (ev_lit rfl)
        have k2 := (hkp 2 (by decide +kernel)).trans (ev_lit rfl)
        have k4 := (hkp 4 (by decide +kernel)).trans (ev_lit rfl)
        have k5 := (hkp 5 (by decide +kernel)).trans (ev_lit rfl)
        have k6 := (hkp 6 (by decide +kernel)).trans (ev_lit rfl)
        have k7 := (hkp 7 (by decide +kernel)).trans (ev_lit rfl)
        have k8 := (hkp 8 (by decide +kernel)).trans (ev_lit rfl)
        have k9 := (hkp 9 (by decide +kernel)).trans (ev_lit rfl)
        have k10 := (hkp 10 (by decide +kernel)).trans (ev_lit rfl)
        have k11 := (hkp 11 (by decide +kernel)).trans (ev_lit rfl)
        have k12 := (hkp 12 (by decide +kernel)).trans (ev_lit rfl)
        have k13 := (hkp 13 (by decide +kernel)).trans (ev_lit rfl)
        have k14 := (hkp 14 (by decide +kernel)).trans (ev_lit rfl)
        have k15 := (hkp 15 (by decide +kernel)).trans (ev_lit rfl)
        have k16 := (hkp 16 (by decide +kernel)).trans (ev_lit rfl)
        have k17 := (hkp 17 (by decide +kernel)).trans (ev_lit rfl)
        have k18 := (hkp 18 (by decide +kernel)).trans (ev_lit rfl)
        have k19 := (hkp 19 (by decide +kernel)).trans (ev_lit rfl)
        have k20 := (hkp 20 (by decide +kernel)).trans (ev_lit rfl)
        have k21 := (hkp 21 (by decide +kernel)).trans (ev_lit rfl)
        have k22 := (hkp 22 (by decide +kernel)).trans (ev_lit rfl)
        have k23 := (hkp 23 (by decide +kernel)).trans (ev_lit rfl)
        have k24 := (hkp 24 (by decide +kernel)).trans (ev_lit rfl)
        have k25 := (hkp 25 (by decide +kernel)).trans (ev_lit rfl)
        have k26 := (hkp 26 (by decide +kernel)).trans (ev_lit rfl)
        have k27 := (hkp 27 (by decide +kernel)).trans (ev_lit rfl)
        have k28 := (hkp 28 (by decide +kernel)).trans (ev_lit rfl)
        have k29 := (hkp 29 (by decide +kernel)).trans (ev_lit rfl)
        have k30 := (hkp 30 (by decide +kernel)).trans (ev_lit rfl)
        have k31 := (hkp 31 (by decide +kernel)).trans (ev_lit rfl)
        have k32 := (hkp 32 (by decide +kernel)).trans (ev_lit rfl)
        have k33 := (hkp 33 (by decide +kernel)).trans (ev_lit rfl)
        have k34 := (hkp 34 (by decide +kernel)).trans (ev_lit rfl)
        have k35 := (hkp 35 (by decide +kernel)).trans (ev_lit rfl)
        have k36 := (hkp 36 (by decide +kernel)).trans (ev_lit rfl)
        have k37 := (hkp 37 (by decide +kernel)).trans (ev_lit rfl)
        have k38 := (hkp 38 (by decide +kernel)).trans (ev_lit rfl)
        have k39 := (hkp 39 (by decide +kernel)).trans (ev_lit rfl)
        have k40 := (hkp 40 (by decide +kernel)).trans (ev_lit rfl)
        have k41 := (hkp 41 (by decide +kernel)).trans (ev_lit rfl)
        have k42 := (hkp 42 (by decide +kernel)).trans (ev_lit rfl)
        have k43 := (hkp 43 (by decide +kernel)).trans (ev_lit rfl)
        have k44 := (hkp 44 (by decide +kernel)).trans (ev_lit rfl)
        have k45 := (hkp 45 (by decide +kernel)).trans (ev_lit rfl)
        have k46 := (hkp 46 (by decide +kernel)).trans (ev_lit rfl)
        have k47 := (hkp 47 (by decide +kernel)).trans (ev_lit rfl)
        have k48 := (hkp 48 (by decide +kernel)).trans (ev_lit rfl)
        have k49 := (hkp 49 (by decide +kernel)).trans (ev_lit rfl)
        have k50 := (hkp 50 (by decide +kernel)).trans (ev_lit rfl)
        have k51 := (hkp 51 (by decide +kernel)).trans (ev_lit rfl)
        have k52 := (hkp 52 (by decide +kernel)).trans (ev_lit rfl)
        have k53 := (hkp 53 (by decide +kernel)).trans (ev_lit rfl)
        have k54 := (hkp 54 (by decide +kernel)).trans (ev_lit rfl)
        have k55 := (hkp 55 (by decide +kernel)).trans (ev_lit rfl)
        have k56 := (hkp 56 (by decide +kernel)).trans (ev_lit rfl)
        have k57 := (hkp 57 (by decide +kernel)).trans (ev_lit rfl)
        have k58 := (hkp 58 (by decide +kernel)).trans (ev_lit rfl)
        have k59 := (hkp 59 (by decide +kernel)).trans (ev_lit rfl)
        have k60 := (hkp 60 (by decide +kernel)).trans (ev_lit rfl)
        have k61 := (hkp 61 (by decide +kernel)).trans (ev_lit rfl)
        have k62 := (hkp 62 (by decide +kernel)).trans (ev_lit rfl)
        have k63 := (hkp 63 (by decide +kernel)).trans (ev_lit rfl)
        have k64 := (hkp 64 (by decide +kernel)).trans (ev_lit rfl)
        have k65 := (hkp 65 (by decide +kernel)).trans (ev_lit rfl)
        have k66 := (hkp 66 (by decide +kernel)).trans (ev_lit rfl)
        have k67 := (hkp 67 (by decide +kernel)).trans (ev_lit rfl)
        have k68 := (hkp 68 (by decide +kernel)).trans (ev_lit rfl)
        have k69 := (hkp 69 (by decide +kernel)).trans (ev_lit rfl)
        have k70 := (hkp 70 (by decide +kernel)).trans (ev_lit rfl)
        have k71 := (hkp 71 (by decide +kernel)).trans (ev_lit rfl)
        have k72 := (hkp 72 (by decide +kernel)).trans (ev_lit rfl)
        have k73 := (hkp 73 (by decide +kernel)).trans (ev_lit rfl)
        have k74 := (hkp 74 (by decide +kernel)).trans (ev_lit rfl)
        have k75 := (hkp 75 (by decide +kernel)).trans (ev_lit rfl)
        have k76 := (hkp 76 (by decide +kernel)).trans (ev_lit rfl)
        have k77 := (hkp 77 (by decide +kernel)).trans (ev_lit rfl)
        have k78 := (hkp 78 (by decide +kernel)).trans (ev_lit rfl)
        have k79 := (hkp 79 (by decide +kernel)).trans (ev_lit rfl)
        have k80 := (hkp 80 (by decide +kernel)).trans (ev_lit rfl)
        have k81 := (hkp 81 (by decide +kernel)).trans (ev_lit rfl)
        have k82 := (hkp 82 (by decide +kernel)).trans (ev_lit rfl)
        have k83 := (hkp 83 (by decide +kernel)).trans (ev_lit rfl)
        have k84 := (hkp 84 (by decide +kernel)).trans (ev_lit rfl)
        have k85 := (hkp 85 (by decide +kernel)).trans (ev_lit rfl)
        have k86 := (hkp 86 (by decide +kernel)).trans (ev_lit rfl)
        have k87 := (hkp 87 (by decide +kernel)).trans (ev_lit rfl)
        have k88 := (hkp 88 (by decide +kernel)).trans (ev_lit rfl)
        have k89 := (hkp 89 (by decide +kernel)).trans (ev_lit rfl)
        have k90 := (hkp 90 (by decide +kernel)).trans (ev_lit rfl)
        have k91 := (hkp 91 (by decide +kernel)).trans (ev_lit rfl)
        have k92 := (hkp 92 (by decide +kernel)).trans (ev_lit rfl)
        have k93 := (hkp 93 (by decide +kernel)).trans (ev_lit rfl)
        have k94 := (hkp 94 (by decide +kernel)).trans (ev_lit rfl)
        have k95 := (hkp 95 (by decide +kernel)).trans (ev_lit rfl)
        have k96 := (hkp 96 (by decide +kernel)).trans (ev_lit rfl)
        have k97 := (hkp 97 (by decide +kernel)).trans (ev_lit rfl)
        have k98 := (hkp 98 (by decide +kernel)).trans (ev_lit rfl)
        have k99 := (hkp 99 (by decide +kernel)).trans (ev_lit rfl)
        have k100 := (hkp 100 (by decide +kernel)).trans (ev_lit rfl)
        have k101 := (hkp 101 (by decide +kernel)).trans (ev_lit rfl)
        have k102 := (hkp 102 (by decide +kernel)).trans (ev_lit rfl)
        have k103 := (hkp 103 (by decide +kernel)).trans (ev_lit rfl)
        have k104 := (hkp 104 (by decide +kernel)).trans (ev_lit rfl)
        have k105 := (hkp 105 (by decide +kernel)).trans (ev_lit rfl)
        have k106 := (hkp 106 (by decide +kernel)).trans (ev_lit rfl)
        have k107 := (hkp 107 (by decide +kernel)).trans (ev_lit rfl)
        have k108 := (hkp 108 (by decide +kernel)).trans (ev_lit rfl)
        have k109 := (hkp 109 (by decide +kernel)).trans (ev_lit rfl)
        have k110 := (hkp 110 (by decide +kernel)).trans (ev_lit rfl)
        have k111 := (hkp 111 (by decide +kernel)).trans (ev_lit rfl)
        have k112 := (hkp 112 (by decide +kernel)).trans (ev_lit rfl)
        have k113 := (hkp 113 (by decide +kernel)).trans (ev_lit rfl)
        have k114 := (hkp 114 (by decide +kernel)).trans (ev_lit rfl)
        have k115 := (hkp 115 (by decide +kernel)).trans (ev_lit rfl)
        have k116 := (hkp 116 (by decide +kernel)).trans (ev_lit rfl)
        have k117 := (hkp 117 (by decide +kernel)).trans (ev_lit rfl)
        have k118 := (hkp 118 (by decide +kernel)).trans (ev_lit rfl)
        have k119 := (hkp 119 (by decide +kernel)).trans (ev_lit rfl)
        have k120 := (hkp 120 (by decide +kernel)).trans (ev_lit rfl)
        have k121 := (hkp 121 (by decide +kernel)).trans (ev_lit rfl)
        have k122 := (hkp 122 (by decide +kernel)).trans (ev_lit rfl)
        have k123 := (hkp 123 (by decide +kernel)).trans (ev_lit rfl)
        have k124 := (hkp 124 (by decide +kernel)).trans (ev_lit rfl)
        have k125 := (hkp 125 (by decide +kernel)).trans (ev_lit rfl)
        have k126 := (hkp 126 (by decide +kernel)).trans (ev_lit rfl)
        have k127 := (hkp 127 (by decide +kernel)).trans (ev_lit rfl)
        have k128 := (hkp 128 (by decide +kernel)).trans (ev_lit rfl)
        have k129 := (hkp 129 (by decide +kernel)).trans (ev_lit rfl)
        have k130 := (hkp 130 (by decide +kernel)).trans (ev_lit rfl)
        have k131 := (hkp 131 (by decide +kernel)).trans (ev_lit rfl)
        have k132 := (hkp 132 (by decide +kernel)).trans (ev_lit rfl)
        have k133 := (hkp 133 (by decide +kernel)).trans (ev_lit rfl)
        have k134 := (hkp 134 (by decide +kernel)).trans (ev_lit rfl)
        have k135 := (hkp 135 (by decide +kernel)).trans (ev_lit rfl)
        have k136 := (hkp 136 (by decide +kernel)).trans (ev_lit rfl)
        have k137 := (hkp 137 (by decide +kernel)).trans (ev_lit rfl)
        have k138 := (hkp 138 (by decide +kernel)).trans (ev_lit rfl)
        have k139 := (hkp 139 (by decide +kernel)).trans (ev_lit rfl)
        have k140 := (hkp 140 (by decide +kernel)).trans (ev_lit rfl)
        have k141 := (hkp 141 (by decide +kernel)).trans (ev_lit rfl)
        have k142 := (hkp 142 (by decide +kernel)).trans (ev_lit rfl)
        have k143 := (hkp 143 (by decide +kernel)).trans (ev_lit rfl)
        have k144 := (hkp 144 (by decide +kernel)).trans (ev_lit rfl)
        have k145 := (hkp 145 (by decide +kernel)).trans (ev_lit rfl)
        have k146 := (hkp 146 (by decide +kernel)).trans (ev_lit rfl)
        have k147 := (hkp 147 (by decide +kernel)).trans (ev_lit rfl)
        have k148 := (hkp 148 (by decide +kernel)).trans (ev_lit rfl)
        have k149 := (hkp 149 (by decide +kernel)).trans (ev_lit rfl)
        have k150 := (hkp 150 (by decide +kernel)).trans (ev_lit rfl)
        have k151 := (hkp 151 (by decide +kernel)).trans (ev_lit rfl)
        have k152 := (hkp 152 (by decide +kernel)).trans (ev_lit rfl)
        have k153 := (hkp 153 (by decide +kernel)).trans (ev_lit rfl)
        have k154 := (hkp 154 (by decide +kernel)).trans (ev_lit rfl)
        have k155 := (hkp 155 (by decide +kernel)).trans (ev_lit rfl)
        have k156 := (hkp 156 (by decide +kernel)).trans (ev_lit rfl)
        have k157 := (hkp 157 (by decide +kernel)).trans (ev_lit rfl)
        have k158 := (hkp 158 (by decide +kernel)).trans (ev_lit rfl)
        have k159 := (hkp 159 (by decide +kernel)).trans (ev_lit rfl)
        have k160 := (hkp 160 (by decide +kernel)).trans (ev_lit rfl)
        have k161 := (hkp 161 (by decide +kernel)).trans (ev_lit rfl)
        have k186 := (hkp 186 (by decide +kernel)).trans (ev_lit rfl)
        have k3 : a.eval (.tmp 3) = Value.string Z' := hr 17 3 (by decide +kernel)
        simp only [List.range, List.range.loop, List.map_cons, List.map_nil, k0, k1, k2, k4, k5, k6, k7, k8, k9, k10, k11, k12, k13, k14, k15, k16, k17, k18, k19, k20, k21, k22, k23, k24, k25, k26, k27, k28, k29, k30, k31, k32, k33, k34, k35, k36, k37, k38, k39, k40, k41, k42, k43, k44, k45, k46, k47, k48, k49, k50, k51, k52, k53, k54, k55, k56, k57, k58, k59, k60, k61, k62, k63, k64, k65, k66, k67, k68, k69, k70, k71, k72, k73, k74, k75, k76, k77, k78, k79, k80, k81, k82, k83, k84, k85, k86, k87, k88, k89, k90, k91, k92, k93, k94, k95, k96, k97, k98, k99, k100, k101, k102, k103, k104, k105, k106, k107, k108, k109, k110, k111, k112, k113, k114, k115, k116, k117, k118, k119, k120, k121, k122, k123, k124, k125, k126, k127, k128, k129, k130, k131, k132, k133, k134, k135, k136, k137, k138, k139, k140, k141, k142, k143, k144, k145, k146, k147, k148, k149, k150, k151, k152, k153, k154, k155, k156, k157, k158, k159, k160, k161, k186, k3] at ha
        clear k0 k1 k2 k4 k5 k6 k7 k8 k9 k10 k11 k12 k13 k14 k15 k16 k17 k18 k19 k20 k21 k22 k23 k24 k25 k26 k27 k28 k29 k30 k31 k32 k33 k34 k35 k36 k37 k38 k39 k40 k41 k42 k43 k44 k45 k46 k47 k48 k49 k50 k51 k52 k53 k54 k55 k56 k57 k58 k59 k60 k61 k62 k63 k64 k65 k66 k67 k68 k69 k70 k71 k72 k73 k74 k75 k76 k77 k78 k79 k80 k81 k82 k83 k84 k85 k86 k87 k88 k89 k90 k91 k92 k93 k94 k95 k96 k97 k98 k99 k100 k101 k102 k103 k104 k105 k106 k107 k108 k109 k110 k111 k112 k113 k114 k115 k116 k117 k118 k119 k120 k121 k122 k123 k124 k125 k126 k127 k128 k129 k130 k131 k132 k133 k134 k135 k136 k137 k138 k139 k140 k141 k142 k143 k144 k145 k146 k147 k148 k149 k150 k151 k152 k153 k154 k155 k156 k157 k158 k159 k160 k161 k186 k3 hsz hdf hkp hr hf
        generalize a.eval (.tmp 162) = v162 at ha
        generalize a.eval (.tmp 163) = v163 at ha
        generalize a.eval (.tmp 164) = v164 at ha
        generalize a.eval (.tmp 165) = v165 at ha
        generalize a.eval (.tmp 166) = v166 at ha
        generalize a.eval (.tmp 167) = v167 at ha
        generalize a.eval (.tmp 168) = v168 at ha
        generalize a.eval (.tmp 169) = v169 at ha
        generalize a.eval (.tmp 170) = v170 at ha
        generalize a.eval (.tmp 171) = v171 at ha
        generalize a.eval (.tmp 172) = v172 at ha
        generalize a.eval (.tmp 173) = v173 at ha
        generalize a.eval (.tmp 174) = v174 at ha
        generalize a.eval (.tmp 175) = v175 at ha
        generalize a.eval (.tmp 176) = v176 at ha
        generalize a.eval (.tmp 177) = v177 at ha
        generalize a.eval (.tmp 178) = v178 at ha
        generalize a.eval (.tmp 179) = v179 at ha
        generalize a.eval (.tmp 180) = v180 at ha
        generalize a.eval (.tmp 181) = v181 at ha
        generalize a.eval (.tmp 182) = v182 at ha
        generalize a.eval (.tmp 183) = v183 at ha
        generalize a.eval (.tmp 184) = v184 at ha
        generalize a.eval (.tmp 185) = v185 at ha
        subst ha
        refine hKK _ W ?_
        clear hKK
        go_wp2
        all_goals try (exfalso; omega)
        go_roundw
        case rel => exact ⟨j + 1, by simp, congrArg Value.string HZ'.out, by omega, HK.out⟩
        case measure => simp [intOf]; omega
      case neg =>
      obtain rfl : j = m.c.env.length := by omega
      have hcp := HCP.out
      rw [← acc_full P3 envL m.c.env, ← HYY.out] at hcp
      rw [hcp, HY'.out]
      clear hcp
      go_wp2
      all_goals try (exfalso; omega)
      go_roundw
      case rel => exact ⟨i + 1, by simp, rfl, by omega, HFI2.out.trans HFj.out⟩
      case measure => simp [intOf]; omega
    case neg =>
      obtain rfl : i = cs.length := by omega
      have HR := Lib.hid HXC.out
      have HX2 := HX'.out
      rw [HXC.out] at HX2
      rw [HX2]
      go_wp2
      all_goals try (exfalso; omega)
      go_roundw
      case rel => exact ⟨k + 1, by simp, rfl, by omega, HFW.out.trans HFi.out⟩
      case measure => simp [intOf]; omega
  case neg =>
    obtain rfl : k = l.length := by omega
    have HR : Hid (acc X0 pod3L (pods3 l) l.length = tx (enc3L seq (pods3 l))) := by rw [Hid, HENC.out, ← acc_full, hpl]
    go_wp2
    all_goals try (exfalso; omega)
    go_ret
    exact ⟨by rw [HR.out]; rfl, HF0.out.trans HF.out⟩
end Go.Proofs.YtldncgelghcjeaaGreatDoor.K
