/-
  The document's 'container' for version 3, walked (printed by genrcont3.py.txt).
-/
import Derived.Test.YtldncgelghcjeaaGreatDoorCat13
import Derived.Deep.RegionHeld3
set_option linter.unusedSimpArgs false
set_option linter.unusedVariables false
namespace Go.Proofs.YtldncgelghcjeaaGreatDoor.K
open Go.ChangeShapes Go.WideShapes Go.ChangeAt Go.RowKit
set_option maxRecDepth 100000

set_option maxHeartbeats 16000000 in
theorem rcont3_any (s : ByteArray) (e : Int) (w : World) (hs : s.size ≤ maxLen) {t : ByteArray} {f : Int} {c : Ct} (h : ct3T s e = (t, f, c)) :
    Calls Tryz.prog 68 #[.agg #[.string s, .int .i64 e]] w fun r w' => Fresh w w' ∧ ((∃ m : CM, r = .returned (.tuple #[.agg #[.string t, .int .i64 f], m.val, .bool false]) ∧ m.c = c ∧ CmOwn w.heap.size w' m) ∨ (∃ (s0 : ByteArray) (e0 : Int) (y0 y1 : ByteArray) (o2 o3 o6 : Option Addr) (l2 k2 l3 k3 l6 k6 : Nat) (y4 y5 : Int), r = .returned (.tuple #[.agg #[.string s0, .int .i64 e0], .agg #[.string y0, .string y1, .slice o2 l2 k2, .slice o3 l3 k3, .int .i64 y4, .int .i64 y5, .slice o6 l6 k6], .bool true]) ∧ f = 18)) := by
  obtain ⟨s1, s2, s3, s4, s5, s6, s7, s8, s9, t', e1, e2, e3, e4, e5, e6, e7, e8, e9, f', n1, n2, n3, c', hT⟩ := ct3T_ex s e
  obtain ⟨r1, r2, r3⟩ : t' = t ∧ f' = f ∧ c' = c := by
    have := (ct3T_eq hT).symm.trans h
    simpa using this
  subst r1 r2 r3
  clear h
  obtain ⟨⟨hn10, hn11⟩, ⟨hn20, hn21⟩, hn30, hn31⟩ := hT.nums
  have HL : Hid (s1.size ≤ maxLen ∧ s2.size ≤ maxLen ∧ s3.size ≤ maxLen ∧ s4.size ≤ maxLen ∧ s5.size ≤ maxLen ∧ s6.size ≤ maxLen ∧ s7.size ≤ maxLen ∧ s8.size ≤ maxLen ∧ s9.size ≤ maxLen) := by have := hT.le; rw [Hid]; omega
  obtain ⟨name, image, cmd, ports, cpu, mem, env⟩ := c'
  have HFT := Lib.hid hT.fit
  have HT := Lib.hid hT
  have H1 : Hid (textT s e = (s1, e1, name)) := hT.h1
  have H2 : Hid (textT s1 e1 = (s2, e2, image)) := hT.h2
  have H3 := Lib.hid hT.h3
  have H4 : Hid (manyT textT n1.toNat s3 e3 = (s4, e4, cmd)) := hT.h4
  have H5 := Lib.hid hT.h5
  have H6 : Hid (manyT portT n2.toNat s5 e5 = (s6, e6, ports)) := hT.h6
  have H7 : Hid (takeT s6 e6 4 = (s7, e7, cpu)) := hT.h7
  have H8 : Hid (takeT s7 e7 4 = (s8, e8, mem)) := hT.h8
  have H9 := Lib.hid hT.h9
  have H10 : Hid (manyT envT n3.toNat s9 e9 = (t', f', env)) := hT.h10
  clear hT
  obtain ⟨i0, hi, hi0, hi1, hi2⟩ := info_parts infoStr3
  obtain ⟨ip, hip, hip0, hip1, hip2⟩ := info_parts infoRPt
  obtain ⟨ie, hie, hie0, hie1, hie2⟩ := info_parts infoREv
  have hA := at_new (w.alloc (.cells #[.string s, .int .i64 e] 143)) (.cells #[.string ⟨#[]⟩, .int .i64 0] 143)
  rw [World.size_alloc] at hA
  have hB := at_new ((w.alloc (.cells #[.string s, .int .i64 e] 143)).alloc (.cells #[.string ⟨#[]⟩, .int .i64 0] 143)) zero7r
  rw [World.size_alloc, World.size_alloc] at hB
  have hC := at_new (((w.alloc (.cells #[.string s, .int .i64 e] 143)).alloc (.cells #[.string ⟨#[]⟩, .int .i64 0] 143)).alloc zero7r) zero7r
  rw [World.size_alloc, World.size_alloc, World.size_alloc] at hC
  have hCB : CB w ((((w.alloc (.cells #[.string s, .int .i64 e] 143)).alloc (.cells #[.string ⟨#[]⟩, .int .i64 0] 143)).alloc zero7r).alloc zero7r) w.heap.size s e #[.string ⟨#[]⟩, .string ⟨#[]⟩, .slice none 0 0, .slice none 0 0, .int .i64 0, .int .i64 0, .slice none 0 0] (.slice none 0 0) [] (.slice none 0 0) [] (.slice none 0 0) [] :=
    ⟨rfl, at_alloc (at_alloc (at_alloc (at_new w _))), at_alloc (at_alloc hA), at_alloc hB, hC, World.ownsRow_nil _ _ _ _, World.ownsRow_nil _ _ _ _, World.ownsRow_nil _ _ _ _, ((((Fresh.refl w).alloc _).alloc _).alloc _).alloc _⟩
  have HCB := Lib.hid hCB
  clear hA hB hC hCB
  go_enter Tryz.func68, Tryz.ntmps68
  go_wp2_with (fail)
  generalize (((w.alloc (.cells #[.string s, .int .i64 e] 143)).alloc (.cells #[.string ⟨#[]⟩, .int .i64 0] 143)).alloc zero7r).alloc zero7r = W0 at *
  obtain ⟨b, hb⟩ : ∃ b, b = w.heap.size := ⟨_, rfl⟩
  rw [← hb] at HCB ⊢
  clear hb
  refine (rtext_at _ hs H1.out).mono ?_
  rintro r v1 ⟨rfl, hf⟩
  have HCB := Lib.hid (HCB.out.fresh hf)
  obtain ⟨c0, c1, f0, f1⟩ := HCB.out.tc
  obtain ⟨⟨p0, p1, p2, p3, p4, p5, p6⟩, pf⟩ := HCB.out.xc
  have g0 := pf 0
  have g1 := pf 1
  have g2 := pf 2
  have g3 := pf 3
  have g4 := pf 4
  have g5 := pf 5
  have g6 := pf 6
  clear pf
  clear hf
  go_wp2_with (fail)
  have HCB : Hid (CB w (((v1.setCell ⟨b, 0, none⟩ (.string s1)).setCell ⟨b, 1, none⟩ (.int .i64 e1)).setCell ⟨b + 3, 0, none⟩ (.string name)) b s1 e1 #[.string name, .string ⟨#[]⟩, .slice none 0 0, .slice none 0 0, .int .i64 0, .int .i64 0, .slice none 0 0] (.slice none 0 0) [] (.slice none 0 0) [] (.slice none 0 0) []) := (HCB.out.setT s1 e1).setX 0 _
  clear c0 c1 f0 f1 p0 p1 p2 p3 p4 p5 p6 g0 g1 g2 g3 g4 g5 g6
  generalize ((v1.setCell ⟨b, 0, none⟩ (.string s1)).setCell ⟨b, 1, none⟩ (.int .i64 e1)).setCell ⟨b + 3, 0, none⟩ (.string name) = U1 at *
  refine (rtext_at _ HL.out.1 H2.out).mono ?_
  rintro r v2 ⟨rfl, hf⟩
  have HCB := Lib.hid (HCB.out.fresh hf)
  obtain ⟨c0, c1, f0, f1⟩ := HCB.out.tc
  obtain ⟨⟨p0, p1, p2, p3, p4, p5, p6⟩, pf⟩ := HCB.out.xc
  have g0 := pf 0
  have g1 := pf 1
  have g2 := pf 2
  have g3 := pf 3
  have g4 := pf 4
  have g5 := pf 5
  have g6 := pf 6
  clear pf
  clear hf
  go_wp2_with (fail)
  have HCB : Hid (CB w (((v2.setCell ⟨b, 0, none⟩ (.string s2)).setCell ⟨b, 1, none⟩ (.int .i64 e2)).setCell ⟨b + 3, 1, none⟩ (.string image)) b s2 e2 #[.string name, .string image, .slice none 0 0, .slice none 0 0, .int .i64 0, .int .i64 0, .slice none 0 0] (.slice none 0 0) [] (.slice none 0 0) [] (.slice none 0 0) []) := (HCB.out.setT s2 e2).setX 1 _
  clear c0 c1 f0 f1 p0 p1 p2 p3 p4 p5 p6 g0 g1 g2 g3 g4 g5 g6
  generalize ((v2.setCell ⟨b, 0, none⟩ (.string s2)).setCell ⟨b, 1, none⟩ (.int .i64 e2)).setCell ⟨b + 3, 1, none⟩ (.string image) = U2 at *
  obtain ⟨t3, f3, m1, htk⟩ : ∃ t f m, takeT s2 e2 1 = (t, f, m) := ⟨_, _, _, rfl⟩
  have HTK := Lib.hid htk
  clear htk
  refine (rtake_at _ HL.out.2.1 HTK.out).mono ?_
  rintro r v3 ⟨rfl, hf⟩
  have HCB := Lib.hid (HCB.out.fresh hf)
  obtain ⟨c0, c1, f0, f1⟩ := HCB.out.tc
  obtain ⟨⟨p0, p1, p2, p3, p4, p5, p6⟩, pf⟩ := HCB.out.xc
  have g0 := pf 0
  have g1 := pf 1
  have g2 := pf 2
  have g3 := pf 3
  have g4 := pf 4
  have g5 := pf 5
  have g6 := pf 6
  clear pf
  clear hf
  have HCB : Hid (CB w ((v3.setCell ⟨b, 0, none⟩ (.string t3)).setCell ⟨b, 1, none⟩ (.int .i64 f3)) b t3 f3 #[.string name, .string image, .slice none 0 0, .slice none 0 0, .int .i64 0, .int .i64 0, .slice none 0 0] (.slice none 0 0) [] (.slice none 0 0) [] (.slice none 0 0) []) := HCB.out.setT t3 f3
  by_cases hm : 16 < m1
  case pos =>
    have HER : Hid (f' = 18) := by
      obtain ⟨_, q2, _⟩ := up_full HTK.out hm H3.out
      rw [Hid, HT.out.err3 (by rw [q2]; decide), q2]
    go_wp2_with (fail)
    all_goals try (exfalso; omega)
    clear c0 c1 f0 f1 p0 p1 p2 p3 p4 p5 p6 g0 g1 g2 g3 g4 g5 g6
    generalize (v3.setCell ⟨b, 0, none⟩ (.string t3)).setCell ⟨b, 1, none⟩ (.int .i64 f3) = U at *
    obtain ⟨c0, c1, f0, f1⟩ := HCB.out.tc
    obtain ⟨⟨p0, p1, p2, p3, p4, p5, p6⟩, pf⟩ := HCB.out.xc
    have g0 := pf 0
    have g1 := pf 1
    have g2 := pf 2
    have g3 := pf 3
    have g4 := pf 4
    have g5 := pf 5
    have g6 := pf 6
    clear pf
    obtain ⟨⟨r0, r1, rf⟩, q0, q1, q2, q3, q4, q5, q6, qf⟩ := HCB.out.rc
    have rg0 := rf 0
    have rg1 := rf 1
    have qg0 := qf 0
    have qg1 := qf 1
    have qg2 := qf 2
    have qg3 := qf 3
    have qg4 := qf 4
    have qg5 := qf 5
    have qg6 := qf 6
    clear rf qf
    have hb1 : ¬ b = b + 1 := by omega
    have hb2 : ¬ b = b + 1 + 1 := by omega
    have hb3 : ¬ b + 1 + 1 = b := by omega
    have hb4 : ¬ b + 1 = b := by omega
    go_region_held3 (fun w' => (w'.cell? ⟨b, 0, none⟩ = some (.string t3) ∧ w'.cell? ⟨b, 1, none⟩ = some (.int .i64 f3) ∧ w'.cell? ⟨b + 3, 0, none⟩ = some (.string name) ∧ w'.cell? ⟨b + 3, 1, none⟩ = some (.string image) ∧ w'.cell? ⟨b + 3, 2, none⟩ = some (.slice none 0 0) ∧ w'.cell? ⟨b + 3, 3, none⟩ = some (.slice none 0 0) ∧ w'.cell? ⟨b + 3, 4, none⟩ = some (.int .i64 0) ∧ w'.cell? ⟨b + 3, 5, none⟩ = some (.int .i64 0) ∧ w'.cell? ⟨b + 3, 6, none⟩ = some (.slice none 0 0)))
      (first | go_keep | (refine ⟨?_, ?_, ?_, ?_, ?_, ?_, ?_, ?_, ?_⟩ <;> (try simp only [World.cell?_drew]) <;> (repeat' (first | assumption | (refine cell_set_ne3 ?_ (by omega))))))
      (fail)
    all_goals go_wp2
    obtain ⟨WF, hWF⟩ : ∃ WF, WF = (((((((((U.setCell ⟨b + 1, 0, none⟩ (.string t3)).setCell ⟨b + 1, 1, none⟩ (.int .i64 f3)).setCell ⟨b + 1 + 1, 0, none⟩ (.string name)).setCell ⟨b + 1 + 1, 1, none⟩ (.string image)).setCell ⟨b + 1 + 1, 2, none⟩ (.slice none 0 0)).setCell ⟨b + 1 + 1, 3, none⟩ (.slice none 0 0)).setCell ⟨b + 1 + 1, 4, none⟩ (.int .i64 0)).setCell ⟨b + 1 + 1, 5, none⟩ (.int .i64 0)).setCell ⟨b + 1 + 1, 6, none⟩ (.slice none 0 0)).drew := ⟨_, rfl⟩
    rw [← hWF]
    obtain ⟨⟨k0, k1⟩, ⟨l0, l1, l2, l3, l4, l5, l6⟩, hfr, hlr, hpr, her⟩ := HCB.out.fin hWF
    clear hWF
    exact bodyPost_ret (v := .tuple #[.agg #[.string t3, .int .i64 f3], .agg #[.string name, .string image, .slice none 0 0, .slice none 0 0, .int .i64 0, .int .i64 0, .slice none 0 0], .bool true]) (by simp [results, Tryz.results68, go_sem, k0, k1, l0, l1, l2, l3, l4, l5, l6]) rfl ⟨hfr, .inr ⟨_, _, _, _, _, _, _, _, _, _, _, _, _, _, _, rfl, HER.out⟩⟩
  obtain ⟨r1, r2, r3⟩ := up_not HTK.out hm H3.out
  subst r1 r2 r3
  obtain ⟨N1, hNN⟩ := Int.eq_ofNat_of_zero_le hn10
  have HNNN1 := Lib.hid hNN
  have HWNN1 : Hid (wrap64 m1 = m1) := by rw [Hid]; unfold wrap64; omega
  have h16N1 : N1 ≤ 16 := by omega
  clear hNN hm
  go_wp2
  all_goals try (exfalso; omega)
  clear c0 c1 f0 f1 p0 p1 p2 p3 p4 p5 p6 g0 g1 g2 g3 g4 g5 g6 HTK
  generalize (v3.setCell ⟨b, 0, none⟩ (.string t3)).setCell ⟨b, 1, none⟩ (.int .i64 f3) = U3 at *
  have H4 : Hid (manyT textT N1 t3 f3 = (s4, e4, cmd)) := by have := H4.out; rw [HNNN1.out, Int.toNat_natCast] at this; exact this
  have HSI : Hid (t3.size ≤ maxLen) := HL.out.2.2.1
  go_loopw [8] (fun aa wr => ∃ (j1 : Nat) (s : ByteArray) (e : Int) (la1 : Option Addr) (lc1 : Nat) (L1 : List (ByteArray)), aa = .int .i64 (j1 : Int) ∧ j1 ≤ N1 ∧ Hid (s.size ≤ maxLen) ∧ Hid (L1.length = j1) ∧ Hid (manyT textT N1 t3 f3 = aheadM L1 (manyT textT (N1 - j1) s e)) ∧ Hid (CB w (wr) b s e #[.string name, .string image, .slice la1 j1 lc1, .slice none 0 0, .int .i64 0, .int .i64 0, .slice none 0 0] (.slice la1 j1 lc1) L1 (.slice none 0 0) [] (.slice none 0 0) [])) (fun aa _ => N1 - (intOf aa).toNat)
  case atStart => exact ⟨0, t3, f3, none, 0, [], rfl, Nat.zero_le _, HSI.out, rfl, rfl, HCB.out⟩
  clear HCB HSI
  obtain ⟨j1, s, e, la1, lc1, L1, rfl, hj, HS, HLj1, HE, HCB⟩ := hrel
  by_cases hjlt : j1 < N1
  case pos =>
    obtain ⟨u1, d1, y1, hu⟩ : ∃ u1 d1 y1, textT s e = (u1, d1, y1) := ⟨_, _, _, rfl⟩
    have HST := Lib.hid (HE.out.trans (manyT_step hjlt hu L1))
    have HU := Lib.hid hu
    have HU1 : Hid (u1.size ≤ maxLen) := by have := (textT_len hu).1; have := HS.out; rw [Hid]; omega
    have hjm : (j1 : Int) < m1 := by rw [HNNN1.out]; omega
    have hwn := HWNN1.out
    clear hu HE
    obtain ⟨c0, c1, f0, f1⟩ := HCB.out.tc
    obtain ⟨⟨p0, p1, p2, p3, p4, p5, p6⟩, pf⟩ := HCB.out.xc
    have g0 := pf 0
    have g1 := pf 1
    have g2 := pf 2
    have g3 := pf 3
    have g4 := pf 4
    have g5 := pf 5
    have g6 := pf 6
    clear pf
    go_wp2_with (fail)
    all_goals clear hwn
    all_goals try (exfalso; omega)
    clear c0 c1 f0 f1 p0 p1 p2 p3 p4 p5 p6 g0 g1 g2 g3 g4 g5 g6
    refine (rtext_at _ HS.out HU.out).mono ?_
    rintro r V1 ⟨rfl, hf⟩
    have HCB := Lib.hid (HCB.out.fresh hf)
    obtain ⟨c0, c1, f0, f1⟩ := HCB.out.tc
    obtain ⟨⟨p0, p1, p2, p3, p4, p5, p6⟩, pf⟩ := HCB.out.xc
    have g0 := pf 0
    have g1 := pf 1
    have g2 := pf 2
    have g3 := pf 3
    have g4 := pf 4
    have g5 := pf 5
    have g6 := pf 6
    clear pf
    clear hf
    have HCE : Hid (CB w ((V1.setCell ⟨b, 0, none⟩ (.string u1)).setCell ⟨b, 1, none⟩ (.int .i64 d1)) b u1 d1 #[.string name, .string image, .slice la1 j1 lc1, .slice none 0 0, .int .i64 0, .int .i64 0, .slice none 0 0] (.slice la1 j1 lc1) L1 (.slice none 0 0) [] (.slice none 0 0) []) := HCB.out.setT u1 d1
    have HSZ : Hid (((V1.setCell ⟨b, 0, none⟩ (.string u1)).setCell ⟨b, 1, none⟩ (.int .i64 d1)).heap.size = V1.heap.size) := by simp [Hid]
    have HN : Hid (∀ j u, [Value.string y1][j]? = some u → (((V1.setCell ⟨b, 0, none⟩ (.string u1)).setCell ⟨b, 1, none⟩ (.int .i64 d1)).alloc (.cells #[.string y1] 9)).cell? ((⟨V1.heap.size, 0, none⟩ : Addr).add j) = some u) := by
      have := news7 ((V1.setCell ⟨b, 0, none⟩ (.string u1)).setCell ⟨b, 1, none⟩ (.int .i64 d1)) 9 [.string y1]
      rw [HSZ.out] at this
      exact this
    have HXS : Hid (b + 3 < V1.heap.size) := lt_of_at HCB.out.x
    go_wp2_with (at_builtin; refine Hid.out ?_)
    refine Lib.hid ?_
    clear c0 c1 f0 f1 p0 p1 p2 p3 p4 p5 p6 g0 g1 g2 g3 g4 g5 g6 HCB
    generalize (V1.setCell ⟨b, 0, none⟩ (.string u1)).setCell ⟨b, 1, none⟩ (.int .i64 d1) = V2 at *
    generalize V1.heap.size = nb at *
    have HOW : Hid ((V2.alloc (.cells #[.string y1] 9)).ownsRow (b + 4) 9 1 (.slice la1 j1 lc1) j1 (tcells L1)) := by
      have := World.ownsRow.alloc HCE.out.lr (.cells #[.string y1] 9)
      rw [HLj1.out] at this; exact this
    refine wpList_append_own _ rfl _ _ 111 rfl (b + 4) 9 i0 (.string ⟨#[]⟩) 1 16 Tryz.underlying111 hi hi0 hi1 hi2 rfl (by decide) _ j1 _ rfl HOW.out ⟨nb, 0, none⟩ 1 1 [.string y1] rfl rfl HN.out (by simp [Value.oneCell']) (by unfold maxLen; omega) (by omega) (by rw [World.size_alloc, HSZ.out]; have := HXS.out; omega) ?_
    intro v' V6 hown' hgrow _
    obtain ⟨g', cap', rfl⟩ := ownsRow_succ hown'
    have HCF := Lib.hid ((HCE.out.fresh ((Fresh.refl V2).alloc _)).growL (L' := L1 ++ [y1]) hgrow (by rw [tcells_snoc, List.length_append, HLj1.out]; exact hown'))
    clear hown' hgrow
    obtain ⟨c0, c1, f0, f1⟩ := HCF.out.tc
    obtain ⟨⟨p0, p1, p2, p3, p4, p5, p6⟩, pf⟩ := HCF.out.xc
    have g0 := pf 0
    have g1 := pf 1
    have g2 := pf 2
    have g3 := pf 3
    have g4 := pf 4
    have g5 := pf 5
    have g6 := pf 6
    clear pf
    go_wp2
    have HCG : Hid (CB w (V6.setCell ⟨b + 3, 2, none⟩ (.slice (some ⟨g', 0, none⟩) (j1 + 1) cap')) b u1 d1 #[.string name, .string image, .slice (some ⟨g', 0, none⟩) (j1 + 1) cap', .slice none 0 0, .int .i64 0, .int .i64 0, .slice none 0 0] (.slice (some ⟨g', 0, none⟩) (j1 + 1) cap') (L1 ++ [y1]) (.slice none 0 0) [] (.slice none 0 0) []) := HCF.out.setX 2 _
    go_roundw
    case rel =>
      refine ⟨j1 + 1, u1, d1, some ⟨g', 0, none⟩, cap', L1 ++ [y1], by simp, by omega, HU1.out, ?_, HST.out, HCG.out⟩
      rw [Hid, List.length_append, HLj1.out]; rfl
    case measure => simp [intOf]; omega
  obtain rfl : j1 = N1 := by omega
  obtain ⟨r1, r2, r3⟩ : s4 = s ∧ e4 = e ∧ cmd = L1 := by
    have h1 := H4.out.symm.trans HE.out
    rw [Nat.sub_self] at h1
    simp only [aheadM, manyT, Prod.mk.injEq, List.append_nil] at h1
    exact h1
  subst r1 r2 r3
  clear HE H4 HS hjlt hj
  have hwn := HWNN1.out
  have hjm : ¬ (j1 : Int) < m1 := by rw [HNNN1.out]; omega
  obtain ⟨c0, c1, f0, f1⟩ := HCB.out.tc
  obtain ⟨⟨p0, p1, p2, p3, p4, p5, p6⟩, pf⟩ := HCB.out.xc
  have g0 := pf 0
  have g1 := pf 1
  have g2 := pf 2
  have g3 := pf 3
  have g4 := pf 4
  have g5 := pf 5
  have g6 := pf 6
  clear pf
  go_wp2_with (fail)
  all_goals clear hwn hjm
  all_goals try (exfalso; omega)
  clear c0 c1 f0 f1 p0 p1 p2 p3 p4 p5 p6 g0 g1 g2 g3 g4 g5 g6
  obtain ⟨t5, f5, m2, htk⟩ : ∃ t f m, takeT s4 e4 1 = (t, f, m) := ⟨_, _, _, rfl⟩
  have HTK := Lib.hid htk
  clear htk
  refine (rtake_at _ HL.out.2.2.2.1 HTK.out).mono ?_
  rintro r v5 ⟨rfl, hf⟩
  have HCB := Lib.hid (HCB.out.fresh hf)
  obtain ⟨c0, c1, f0, f1⟩ := HCB.out.tc
  obtain ⟨⟨p0, p1, p2, p3, p4, p5, p6⟩, pf⟩ := HCB.out.xc
  have g0 := pf 0
  have g1 := pf 1
  have g2 := pf 2
  have g3 := pf 3
  have g4 := pf 4
  have g5 := pf 5
  have g6 := pf 6
  clear pf
  clear hf
  have HCB : Hid (CB w ((v5.setCell ⟨b, 0, none⟩ (.string t5)).setCell ⟨b, 1, none⟩ (.int .i64 f5)) b t5 f5 #[.string name, .string image, .slice la1 j1 lc1, .slice none 0 0, .int .i64 0, .int .i64 0, .slice none 0 0] (.slice la1 j1 lc1) cmd (.slice none 0 0) [] (.slice none 0 0) []) := HCB.out.setT t5 f5
  by_cases hm : 16 < m2
  case pos =>
    have HER : Hid (f' = 18) := by
      obtain ⟨_, q2, _⟩ := up_full HTK.out hm H5.out
      rw [Hid, HT.out.err5 (by rw [q2]; decide), q2]
    go_wp2_with (fail)
    all_goals try (exfalso; omega)
    clear c0 c1 f0 f1 p0 p1 p2 p3 p4 p5 p6 g0 g1 g2 g3 g4 g5 g6
    generalize (v5.setCell ⟨b, 0, none⟩ (.string t5)).setCell ⟨b, 1, none⟩ (.int .i64 f5) = U at *
    obtain ⟨c0, c1, f0, f1⟩ := HCB.out.tc
    obtain ⟨⟨p0, p1, p2, p3, p4, p5, p6⟩, pf⟩ := HCB.out.xc
    have g0 := pf 0
    have g1 := pf 1
    have g2 := pf 2
    have g3 := pf 3
    have g4 := pf 4
    have g5 := pf 5
    have g6 := pf 6
    clear pf
    obtain ⟨⟨r0, r1, rf⟩, q0, q1, q2, q3, q4, q5, q6, qf⟩ := HCB.out.rc
    have rg0 := rf 0
    have rg1 := rf 1
    have qg0 := qf 0
    have qg1 := qf 1
    have qg2 := qf 2
    have qg3 := qf 3
    have qg4 := qf 4
    have qg5 := qf 5
    have qg6 := qf 6
    clear rf qf
    have hb1 : ¬ b = b + 1 := by omega
    have hb2 : ¬ b = b + 1 + 1 := by omega
    have hb3 : ¬ b + 1 + 1 = b := by omega
    have hb4 : ¬ b + 1 = b := by omega
    go_region_held3 (fun w' => (w'.cell? ⟨b, 0, none⟩ = some (.string t5) ∧ w'.cell? ⟨b, 1, none⟩ = some (.int .i64 f5) ∧ w'.cell? ⟨b + 3, 0, none⟩ = some (.string name) ∧ w'.cell? ⟨b + 3, 1, none⟩ = some (.string image) ∧ w'.cell? ⟨b + 3, 2, none⟩ = some (.slice la1 j1 lc1) ∧ w'.cell? ⟨b + 3, 3, none⟩ = some (.slice none 0 0) ∧ w'.cell? ⟨b + 3, 4, none⟩ = some (.int .i64 0) ∧ w'.cell? ⟨b + 3, 5, none⟩ = some (.int .i64 0) ∧ w'.cell? ⟨b + 3, 6, none⟩ = some (.slice none 0 0)))
      (first | go_keep | (refine ⟨?_, ?_, ?_, ?_, ?_, ?_, ?_, ?_, ?_⟩ <;> (try simp only [World.cell?_drew]) <;> (repeat' (first | assumption | (refine cell_set_ne3 ?_ (by omega))))))
      (fail)
    all_goals go_wp2
    obtain ⟨WF, hWF⟩ : ∃ WF, WF = (((((((((U.setCell ⟨b + 1, 0, none⟩ (.string t5)).setCell ⟨b + 1, 1, none⟩ (.int .i64 f5)).setCell ⟨b + 1 + 1, 0, none⟩ (.string name)).setCell ⟨b + 1 + 1, 1, none⟩ (.string image)).setCell ⟨b + 1 + 1, 2, none⟩ (.slice la1 j1 lc1)).setCell ⟨b + 1 + 1, 3, none⟩ (.slice none 0 0)).setCell ⟨b + 1 + 1, 4, none⟩ (.int .i64 0)).setCell ⟨b + 1 + 1, 5, none⟩ (.int .i64 0)).setCell ⟨b + 1 + 1, 6, none⟩ (.slice none 0 0)).drew := ⟨_, rfl⟩
    rw [← hWF]
    obtain ⟨⟨k0, k1⟩, ⟨l0, l1, l2, l3, l4, l5, l6⟩, hfr, hlr, hpr, her⟩ := HCB.out.fin hWF
    clear hWF
    exact bodyPost_ret (v := .tuple #[.agg #[.string t5, .int .i64 f5], .agg #[.string name, .string image, .slice la1 j1 lc1, .slice none 0 0, .int .i64 0, .int .i64 0, .slice none 0 0], .bool true]) (by simp [results, Tryz.results68, go_sem, k0, k1, l0, l1, l2, l3, l4, l5, l6]) rfl ⟨hfr, .inr ⟨_, _, _, _, _, _, _, _, _, _, _, _, _, _, _, rfl, HER.out⟩⟩
  obtain ⟨r1, r2, r3⟩ := up_not HTK.out hm H5.out
  subst r1 r2 r3
  obtain ⟨N2, hNN⟩ := Int.eq_ofNat_of_zero_le hn20
  have HNNN2 := Lib.hid hNN
  have HWNN2 : Hid (wrap64 m2 = m2) := by rw [Hid]; unfold wrap64; omega
  have h16N2 : N2 ≤ 16 := by omega
  clear hNN hm
  go_wp2
  all_goals try (exfalso; omega)
  clear c0 c1 f0 f1 p0 p1 p2 p3 p4 p5 p6 g0 g1 g2 g3 g4 g5 g6 HTK
  generalize (v5.setCell ⟨b, 0, none⟩ (.string t5)).setCell ⟨b, 1, none⟩ (.int .i64 f5) = U5 at *
  have H6 : Hid (manyT portT N2 t5 f5 = (s6, e6, ports)) := by have := H6.out; rw [HNNN2.out, Int.toNat_natCast] at this; exact this
  have HSI : Hid (t5.size ≤ maxLen) := HL.out.2.2.2.2.1
  go_loopw [10] (fun aa wr => ∃ (j2 : Nat) (s : ByteArray) (e : Int) (la2 : Option Addr) (lc2 : Nat) (L2 : List (Int × Int)), aa = .int .i64 (j2 : Int) ∧ j2 ≤ N2 ∧ Hid (s.size ≤ maxLen) ∧ Hid (L2.length = j2) ∧ Hid (manyT portT N2 t5 f5 = aheadM L2 (manyT portT (N2 - j2) s e)) ∧ Hid (CB w (wr) b s e #[.string name, .string image, .slice la1 j1 lc1, .slice la2 j2 lc2, .int .i64 0, .int .i64 0, .slice none 0 0] (.slice la1 j1 lc1) cmd (.slice la2 j2 lc2) L2 (.slice none 0 0) [])) (fun aa _ => N2 - (intOf aa).toNat)
  case atStart => exact ⟨0, t5, f5, none, 0, [], rfl, Nat.zero_le _, HSI.out, rfl, rfl, HCB.out⟩
  clear HCB HSI
  obtain ⟨j2, s, e, la2, lc2, L2, rfl, hj, HS, HLj2, HE, HCB⟩ := hrel
  by_cases hjlt : j2 < N2
  case pos =>
    obtain ⟨u1, d1, y1, hu1⟩ : ∃ u1 d1 y1, takeT s e 2 = (u1, d1, y1) := ⟨_, _, _, rfl⟩
    obtain ⟨u2, d2, y2, hu2⟩ : ∃ u2 d2 y2, takeT u1 d1 1 = (u2, d2, y2) := ⟨_, _, _, rfl⟩
    have hu : portT s e = (u2, d2, (y1, y2)) := by unfold portT; rw [andT_eq (f := takeF 2) hu1, andT_eq (f := takeF 1) hu2]; rfl
    have HST := Lib.hid (HE.out.trans (manyT_step hjlt hu L2))
    have HUA := Lib.hid hu1
    have HUB := Lib.hid hu2
    have HU1 : Hid (u1.size ≤ maxLen) := by have := take_len hu1; have := HS.out; rw [Hid]; omega
    have HU2 : Hid (u2.size ≤ maxLen) := by have := take_len hu2; have := HU1.out; rw [Hid]; omega
    have hy := portT_fit s e
    rw [hu] at hy
    dsimp only at hy
    have HWA : Hid (wrap64 y1 = y1) := by have := hy.1; rw [Hid]; unfold wrap64; omega
    have HWB : Hid (wrap64 y2 = y2) := by have := hy.2; rw [Hid]; unfold wrap64; omega
    have hjm : (j2 : Int) < m2 := by rw [HNNN2.out]; omega
    have hwn := HWNN2.out
    clear hu hu1 hu2 hy HE
    have HCQ : Hid (CQ w (wr.alloc (.cells #[.int .i64 0, .int .i64 0] 117)) b s e #[.string name, .string image, .slice la1 j1 lc1, .slice la2 j2 lc2, .int .i64 0, .int .i64 0, .slice none 0 0] (.slice la1 j1 lc1) cmd (.slice la2 j2 lc2) L2 (.slice none 0 0) [] wr.heap.size 117 #[.int .i64 0, .int .i64 0]) := HCB.out.box _ _
    clear HCB
    obtain ⟨c0, c1, f0, f1⟩ := HCQ.out.toCB.tc
    obtain ⟨⟨p0, p1, p2, p3, p4, p5, p6⟩, pf⟩ := HCQ.out.toCB.xc
    have g0 := pf 0
    have g1 := pf 1
    have g2 := pf 2
    have g3 := pf 3
    have g4 := pf 4
    have g5 := pf 5
    have g6 := pf 6
    clear pf
    obtain ⟨⟨qa, qb2⟩, qff⟩ := HCQ.out.qc2
    have qf0 := qff 0
    have qf1 := qff 1
    clear qff
    go_wp2_with (fail)
    all_goals clear hwn
    all_goals try (exfalso; omega)
    clear c0 c1 f0 f1 p0 p1 p2 p3 p4 p5 p6 g0 g1 g2 g3 g4 g5 g6 qa qb2 qf0 qf1
    generalize wr.alloc (.cells #[.int .i64 0, .int .i64 0] 117) = W1 at *
    generalize wr.heap.size = qb at *
    refine (rtake_at _ HS.out HUA.out).mono ?_
    rintro r V1 ⟨rfl, hf⟩
    have HCQ := Lib.hid (HCQ.out.fresh hf)
    obtain ⟨c0, c1, f0, f1⟩ := HCQ.out.toCB.tc
    obtain ⟨⟨p0, p1, p2, p3, p4, p5, p6⟩, pf⟩ := HCQ.out.toCB.xc
    have g0 := pf 0
    have g1 := pf 1
    have g2 := pf 2
    have g3 := pf 3
    have g4 := pf 4
    have g5 := pf 5
    have g6 := pf 6
    clear pf
    obtain ⟨⟨qa, qb2⟩, qff⟩ := HCQ.out.qc2
    have qf0 := qff 0
    have qf1 := qff 1
    clear qff
    clear hf
    have hwx := HWA.out
    have hqb := HCQ.out.hq
    have hq0 : ¬ qb = b := by omega
    have hq1 : ¬ b = qb := by omega
    have HCE : Hid (CQ w (((V1.setCell ⟨b, 0, none⟩ (.string u1)).setCell ⟨b, 1, none⟩ (.int .i64 d1)).setCell ⟨qb, 0, none⟩ (.int .i64 y1)) b u1 d1 #[.string name, .string image, .slice la1 j1 lc1, .slice la2 j2 lc2, .int .i64 0, .int .i64 0, .slice none 0 0] (.slice la1 j1 lc1) cmd (.slice la2 j2 lc2) L2 (.slice none 0 0) [] qb 117 #[.int .i64 y1, .int .i64 0]) := (HCQ.out.setT u1 d1).setQ 0 _
    go_wp2_with (fail)
    all_goals clear hwx hqb hq0 hq1
    clear c0 c1 f0 f1 p0 p1 p2 p3 p4 p5 p6 g0 g1 g2 g3 g4 g5 g6 qa qb2 qf0 qf1
    have HCQ := HCE
    clear HCE
    generalize ((V1.setCell ⟨b, 0, none⟩ (.string u1)).setCell ⟨b, 1, none⟩ (.int .i64 d1)).setCell ⟨qb, 0, none⟩ (.int .i64 y1) = W2 at *
    refine (rtake_at _ HU1.out HUB.out).mono ?_
    rintro r V3 ⟨rfl, hf⟩
    have HCQ := Lib.hid (HCQ.out.fresh hf)
    obtain ⟨c0, c1, f0, f1⟩ := HCQ.out.toCB.tc
    obtain ⟨⟨p0, p1, p2, p3, p4, p5, p6⟩, pf⟩ := HCQ.out.toCB.xc
    have g0 := pf 0
    have g1 := pf 1
    have g2 := pf 2
    have g3 := pf 3
    have g4 := pf 4
    have g5 := pf 5
    have g6 := pf 6
    clear pf
    obtain ⟨⟨qa, qb2⟩, qff⟩ := HCQ.out.qc2
    have qf0 := qff 0
    have qf1 := qff 1
    clear qff
    clear hf
    have hwx := HWB.out
    have hqb := HCQ.out.hq
    have hq0 : ¬ qb = b := by omega
    have hq1 : ¬ b = qb := by omega
    have HCE : Hid (CQ w (((V3.setCell ⟨b, 0, none⟩ (.string u2)).setCell ⟨b, 1, none⟩ (.int .i64 d2)).setCell ⟨qb, 1, none⟩ (.int .i64 y2)) b u2 d2 #[.string name, .string image, .slice la1 j1 lc1, .slice la2 j2 lc2, .int .i64 0, .int .i64 0, .slice none 0 0] (.slice la1 j1 lc1) cmd (.slice la2 j2 lc2) L2 (.slice none 0 0) [] qb 117 #[.int .i64 y1, .int .i64 y2]) := (HCQ.out.setT u2 d2).setQ 1 _
    have HCE := Lib.hid HCE.out.toCB
    have HSZ : Hid ((((V3.setCell ⟨b, 0, none⟩ (.string u2)).setCell ⟨b, 1, none⟩ (.int .i64 d2)).setCell ⟨qb, 1, none⟩ (.int .i64 y2)).heap.size = V3.heap.size) := by simp [Hid]
    have HN : Hid (∀ j u, [Value.int .i64 y1, .int .i64 y2][j]? = some u → ((((V3.setCell ⟨b, 0, none⟩ (.string u2)).setCell ⟨b, 1, none⟩ (.int .i64 d2)).setCell ⟨qb, 1, none⟩ (.int .i64 y2)).alloc (.cells #[.int .i64 y1, .int .i64 y2] 117)).cell? ((⟨V3.heap.size, 0, none⟩ : Addr).add j) = some u) := by
      have := news7 (((V3.setCell ⟨b, 0, none⟩ (.string u2)).setCell ⟨b, 1, none⟩ (.int .i64 d2)).setCell ⟨qb, 1, none⟩ (.int .i64 y2)) 117 [.int .i64 y1, .int .i64 y2]
      rw [HSZ.out] at this
      exact this
    have HXS : Hid (b + 3 < V3.heap.size) := lt_of_at HCQ.out.x
    go_wp2_with (at_builtin; refine Hid.out ?_)
    refine Lib.hid ?_
    clear c0 c1 f0 f1 p0 p1 p2 p3 p4 p5 p6 g0 g1 g2 g3 g4 g5 g6 qa qb2 qf0 qf1 HCQ hwx hqb hq0 hq1
    generalize ((V3.setCell ⟨b, 0, none⟩ (.string u2)).setCell ⟨b, 1, none⟩ (.int .i64 d2)).setCell ⟨qb, 1, none⟩ (.int .i64 y2) = V2 at *
    generalize V3.heap.size = nb at *
    have HOW : Hid ((V2.alloc (.cells #[.int .i64 y1, .int .i64 y2] 117)).ownsRow (b + 4) 117 2 (.slice la2 j2 lc2) j2 (pcells L2)) := by
      have := World.ownsRow.alloc HCE.out.pr (.cells #[.int .i64 y1, .int .i64 y2] 117)
      rw [HLj2.out] at this; exact this
    refine wpList_append_own _ rfl _ _ 112 rfl (b + 4) 117 ip (.agg #[.int .i64 0, .int .i64 0]) 2 16 Tryz.underlying112 hip hip0 hip1 hip2 rfl (by decide) _ j2 _ rfl HOW.out ⟨nb, 0, none⟩ 1 1 [.int .i64 y1, .int .i64 y2] rfl rfl HN.out (by simp [Value.oneCell']) (by unfold maxLen; omega) (by omega) (by rw [World.size_alloc, HSZ.out]; have := HXS.out; omega) ?_
    intro v' V6 hown' hgrow _
    obtain ⟨g', cap', rfl⟩ := ownsRow_succ hown'
    have HCF := Lib.hid ((HCE.out.fresh ((Fresh.refl V2).alloc _)).growP (P' := L2 ++ [(y1, y2)]) hgrow (by rw [pcells_snoc, List.length_append, HLj2.out]; exact hown'))
    clear hown' hgrow
    obtain ⟨c0, c1, f0, f1⟩ := HCF.out.tc
    obtain ⟨⟨p0, p1, p2, p3, p4, p5, p6⟩, pf⟩ := HCF.out.xc
    have g0 := pf 0
    have g1 := pf 1
    have g2 := pf 2
    have g3 := pf 3
    have g4 := pf 4
    have g5 := pf 5
    have g6 := pf 6
    clear pf
    go_wp2
    have HCG : Hid (CB w (V6.setCell ⟨b + 3, 3, none⟩ (.slice (some ⟨g', 0, none⟩) (j2 + 1) cap')) b u2 d2 #[.string name, .string image, .slice la1 j1 lc1, .slice (some ⟨g', 0, none⟩) (j2 + 1) cap', .int .i64 0, .int .i64 0, .slice none 0 0] (.slice la1 j1 lc1) cmd (.slice (some ⟨g', 0, none⟩) (j2 + 1) cap') (L2 ++ [(y1, y2)]) (.slice none 0 0) []) := HCF.out.setX 3 _
    go_roundw
    case rel =>
      refine ⟨j2 + 1, u2, d2, some ⟨g', 0, none⟩, cap', L2 ++ [(y1, y2)], by simp, by omega, HU2.out, ?_, HST.out, HCG.out⟩
      rw [Hid, List.length_append, HLj2.out]; rfl
    case measure => simp [intOf]; omega
  obtain rfl : j2 = N2 := by omega
  obtain ⟨r1, r2, r3⟩ : s6 = s ∧ e6 = e ∧ ports = L2 := by
    have h1 := H6.out.symm.trans HE.out
    rw [Nat.sub_self] at h1
    simp only [aheadM, manyT, Prod.mk.injEq, List.append_nil] at h1
    exact h1
  subst r1 r2 r3
  clear HE H6 HS hjlt hj
  have hwn := HWNN2.out
  have hjm : ¬ (j2 : Int) < m2 := by rw [HNNN2.out]; omega
  obtain ⟨c0, c1, f0, f1⟩ := HCB.out.tc
  obtain ⟨⟨p0, p1, p2, p3, p4, p5, p6⟩, pf⟩ := HCB.out.xc
  have g0 := pf 0
  have g1 := pf 1
  have g2 := pf 2
  have g3 := pf 3
  have g4 := pf 4
  have g5 := pf 5
  have g6 := pf 6
  clear pf
  go_wp2_with (fail)
  all_goals clear hwn hjm
  all_goals try (exfalso; omega)
  clear c0 c1 f0 f1 p0 p1 p2 p3 p4 p5 p6 g0 g1 g2 g3 g4 g5 g6
  refine (rtake_at _ HL.out.2.2.2.2.2.1 H7.out).mono ?_
  rintro r v7 ⟨rfl, hf⟩
  have HCB := Lib.hid (HCB.out.fresh hf)
  obtain ⟨c0, c1, f0, f1⟩ := HCB.out.tc
  obtain ⟨⟨p0, p1, p2, p3, p4, p5, p6⟩, pf⟩ := HCB.out.xc
  have g0 := pf 0
  have g1 := pf 1
  have g2 := pf 2
  have g3 := pf 3
  have g4 := pf 4
  have g5 := pf 5
  have g6 := pf 6
  clear pf
  clear hf
  have hwx : wrap64 cpu = cpu := by have := HFT.out.cpu0; have := HFT.out.cpu1; dsimp only at *; unfold wrap64; omega
  have HCE : Hid (CB w (((v7.setCell ⟨b, 0, none⟩ (.string s7)).setCell ⟨b, 1, none⟩ (.int .i64 e7)).setCell ⟨b + 3, 4, none⟩ (.int .i64 cpu)) b s7 e7 #[.string name, .string image, .slice la1 j1 lc1, .slice la2 j2 lc2, .int .i64 cpu, .int .i64 0, .slice none 0 0] (.slice la1 j1 lc1) cmd (.slice la2 j2 lc2) ports (.slice none 0 0) []) := (HCB.out.setT s7 e7).setX 4 _
  go_wp2_with (fail)
  clear hwx HCB
  have HCB := HCE
  clear HCE
  clear c0 c1 f0 f1 p0 p1 p2 p3 p4 p5 p6 g0 g1 g2 g3 g4 g5 g6
  generalize ((v7.setCell ⟨b, 0, none⟩ (.string s7)).setCell ⟨b, 1, none⟩ (.int .i64 e7)).setCell ⟨b + 3, 4, none⟩ (.int .i64 cpu) = U7 at *
  refine (rtake_at _ HL.out.2.2.2.2.2.2.1 H8.out).mono ?_
  rintro r v8 ⟨rfl, hf⟩
  have HCB := Lib.hid (HCB.out.fresh hf)
  obtain ⟨c0, c1, f0, f1⟩ := HCB.out.tc
  obtain ⟨⟨p0, p1, p2, p3, p4, p5, p6⟩, pf⟩ := HCB.out.xc
  have g0 := pf 0
  have g1 := pf 1
  have g2 := pf 2
  have g3 := pf 3
  have g4 := pf 4
  have g5 := pf 5
  have g6 := pf 6
  clear pf
  clear hf
  have hwx : wrap64 mem = mem := by have := HFT.out.mem0; have := HFT.out.mem1; dsimp only at *; unfold wrap64; omega
  have HCE : Hid (CB w (((v8.setCell ⟨b, 0, none⟩ (.string s8)).setCell ⟨b, 1, none⟩ (.int .i64 e8)).setCell ⟨b + 3, 5, none⟩ (.int .i64 mem)) b s8 e8 #[.string name, .string image, .slice la1 j1 lc1, .slice la2 j2 lc2, .int .i64 cpu, .int .i64 mem, .slice none 0 0] (.slice la1 j1 lc1) cmd (.slice la2 j2 lc2) ports (.slice none 0 0) []) := (HCB.out.setT s8 e8).setX 5 _
  go_wp2_with (fail)
  clear hwx HCB
  have HCB := HCE
  clear HCE
  clear c0 c1 f0 f1 p0 p1 p2 p3 p4 p5 p6 g0 g1 g2 g3 g4 g5 g6
  generalize ((v8.setCell ⟨b, 0, none⟩ (.string s8)).setCell ⟨b, 1, none⟩ (.int .i64 e8)).setCell ⟨b + 3, 5, none⟩ (.int .i64 mem) = U8 at *
  obtain ⟨t9, f9, m3, htk⟩ : ∃ t f m, takeT s8 e8 1 = (t, f, m) := ⟨_, _, _, rfl⟩
  have HTK := Lib.hid htk
  clear htk
  refine (rtake_at _ HL.out.2.2.2.2.2.2.2.1 HTK.out).mono ?_
  rintro r v9 ⟨rfl, hf⟩
  have HCB := Lib.hid (HCB.out.fresh hf)
  obtain ⟨c0, c1, f0, f1⟩ := HCB.out.tc
  obtain ⟨⟨p0, p1, p2, p3, p4, p5, p6⟩, pf⟩ := HCB.out.xc
  have g0 := pf 0
  have g1 := pf 1
  have g2 := pf 2
  have g3 := pf 3
  have g4 := pf 4
  have g5 := pf 5
  have g6 := pf 6
  clear pf
  clear hf
  have HCB : Hid (CB w ((v9.setCell ⟨b, 0, none⟩ (.string t9)).setCell ⟨b, 1, none⟩ (.int .i64 f9)) b t9 f9 #[.string name, .string image, .slice la1 j1 lc1, .slice la2 j2 lc2, .int .i64 cpu, .int .i64 mem, .slice none 0 0] (.slice la1 j1 lc1) cmd (.slice la2 j2 lc2) ports (.slice none 0 0) []) := HCB.out.setT t9 f9
  by_cases hm : 16 < m3
  case pos =>
    have HER : Hid (f' = 18) := by
      obtain ⟨_, q2, _⟩ := up_full HTK.out hm H9.out
      rw [Hid, HT.out.err9 (by rw [q2]; decide), q2]
    go_wp2_with (fail)
    all_goals try (exfalso; omega)
    clear c0 c1 f0 f1 p0 p1 p2 p3 p4 p5 p6 g0 g1 g2 g3 g4 g5 g6
    generalize (v9.setCell ⟨b, 0, none⟩ (.string t9)).setCell ⟨b, 1, none⟩ (.int .i64 f9) = U at *
    obtain ⟨c0, c1, f0, f1⟩ := HCB.out.tc
    obtain ⟨⟨p0, p1, p2, p3, p4, p5, p6⟩, pf⟩ := HCB.out.xc
    have g0 := pf 0
    have g1 := pf 1
    have g2 := pf 2
    have g3 := pf 3
    have g4 := pf 4
    have g5 := pf 5
    have g6 := pf 6
    clear pf
    obtain ⟨⟨r0, r1, rf⟩, q0, q1, q2, q3, q4, q5, q6, qf⟩ := HCB.out.rc
    have rg0 := rf 0
    have rg1 := rf 1
    have qg0 := qf 0
    have qg1 := qf 1
    have qg2 := qf 2
    have qg3 := qf 3
    have qg4 := qf 4
    have qg5 := qf 5
    have qg6 := qf 6
    clear rf qf
    have hb1 : ¬ b = b + 1 := by omega
    have hb2 : ¬ b = b + 1 + 1 := by omega
    have hb3 : ¬ b + 1 + 1 = b := by omega
    have hb4 : ¬ b + 1 = b := by omega
    go_region_held3 (fun w' => (w'.cell? ⟨b, 0, none⟩ = some (.string t9) ∧ w'.cell? ⟨b, 1, none⟩ = some (.int .i64 f9) ∧ w'.cell? ⟨b + 3, 0, none⟩ = some (.string name) ∧ w'.cell? ⟨b + 3, 1, none⟩ = some (.string image) ∧ w'.cell? ⟨b + 3, 2, none⟩ = some (.slice la1 j1 lc1) ∧ w'.cell? ⟨b + 3, 3, none⟩ = some (.slice la2 j2 lc2) ∧ w'.cell? ⟨b + 3, 4, none⟩ = some (.int .i64 cpu) ∧ w'.cell? ⟨b + 3, 5, none⟩ = some (.int .i64 mem) ∧ w'.cell? ⟨b + 3, 6, none⟩ = some (.slice none 0 0)))
      (first | go_keep | (refine ⟨?_, ?_, ?_, ?_, ?_, ?_, ?_, ?_, ?_⟩ <;> (try simp only [World.cell?_drew]) <;> (repeat' (first | assumption | (refine cell_set_ne3 ?_ (by omega))))))
      (fail)
    all_goals go_wp2
    obtain ⟨WF, hWF⟩ : ∃ WF, WF = (((((((((U.setCell ⟨b + 1, 0, none⟩ (.string t9)).setCell ⟨b + 1, 1, none⟩ (.int .i64 f9)).setCell ⟨b + 1 + 1, 0, none⟩ (.string name)).setCell ⟨b + 1 + 1, 1, none⟩ (.string image)).setCell ⟨b + 1 + 1, 2, none⟩ (.slice la1 j1 lc1)).setCell ⟨b + 1 + 1, 3, none⟩ (.slice la2 j2 lc2)).setCell ⟨b + 1 + 1, 4, none⟩ (.int .i64 cpu)).setCell ⟨b + 1 + 1, 5, none⟩ (.int .i64 mem)).setCell ⟨b + 1 + 1, 6, none⟩ (.slice none 0 0)).drew := ⟨_, rfl⟩
    rw [← hWF]
    obtain ⟨⟨k0, k1⟩, ⟨l0, l1, l2, l3, l4, l5, l6⟩, hfr, hlr, hpr, her⟩ := HCB.out.fin hWF
    clear hWF
    exact bodyPost_ret (v := .tuple #[.agg #[.string t9, .int .i64 f9], .agg #[.string name, .string image, .slice la1 j1 lc1, .slice la2 j2 lc2, .int .i64 cpu, .int .i64 mem, .slice none 0 0], .bool true]) (by simp [results, Tryz.results68, go_sem, k0, k1, l0, l1, l2, l3, l4, l5, l6]) rfl ⟨hfr, .inr ⟨_, _, _, _, _, _, _, _, _, _, _, _, _, _, _, rfl, HER.out⟩⟩
  obtain ⟨r1, r2, r3⟩ := up_not HTK.out hm H9.out
  subst r1 r2 r3
  obtain ⟨N3, hNN⟩ := Int.eq_ofNat_of_zero_le hn30
  have HNNN3 := Lib.hid hNN
  have HWNN3 : Hid (wrap64 m3 = m3) := by rw [Hid]; unfold wrap64; omega
  have h16N3 : N3 ≤ 16 := by omega
  clear hNN hm
  go_wp2
  all_goals try (exfalso; omega)
  clear c0 c1 f0 f1 p0 p1 p2 p3 p4 p5 p6 g0 g1 g2 g3 g4 g5 g6 HTK
  generalize (v9.setCell ⟨b, 0, none⟩ (.string t9)).setCell ⟨b, 1, none⟩ (.int .i64 f9) = U9 at *
  have H10 : Hid (manyT envT N3 t9 f9 = (t', f', env)) := by have := H10.out; rw [HNNN3.out, Int.toNat_natCast] at this; exact this
  have HSI : Hid (t9.size ≤ maxLen) := HL.out.2.2.2.2.2.2.2.2
  go_loopw [12] (fun aa wr => ∃ (j3 : Nat) (s : ByteArray) (e : Int) (la3 : Option Addr) (lc3 : Nat) (L3 : List (ByteArray × ByteArray)), aa = .int .i64 (j3 : Int) ∧ j3 ≤ N3 ∧ Hid (s.size ≤ maxLen) ∧ Hid (L3.length = j3) ∧ Hid (manyT envT N3 t9 f9 = aheadM L3 (manyT envT (N3 - j3) s e)) ∧ Hid (CB w (wr) b s e #[.string name, .string image, .slice la1 j1 lc1, .slice la2 j2 lc2, .int .i64 cpu, .int .i64 mem, .slice la3 j3 lc3] (.slice la1 j1 lc1) cmd (.slice la2 j2 lc2) ports (.slice la3 j3 lc3) L3)) (fun aa _ => N3 - (intOf aa).toNat)
  case atStart => exact ⟨0, t9, f9, none, 0, [], rfl, Nat.zero_le _, HSI.out, rfl, rfl, HCB.out⟩
  clear HCB HSI
  obtain ⟨j3, s, e, la3, lc3, L3, rfl, hj, HS, HLj3, HE, HCB⟩ := hrel
  by_cases hjlt : j3 < N3
  case pos =>
    obtain ⟨u1, d1, y1, hu1⟩ : ∃ u1 d1 y1, textT s e = (u1, d1, y1) := ⟨_, _, _, rfl⟩
    obtain ⟨u2, d2, y2, hu2⟩ : ∃ u2 d2 y2, textT u1 d1 = (u2, d2, y2) := ⟨_, _, _, rfl⟩
    have hu : envT s e = (u2, d2, (y1, y2)) := by unfold envT; rw [andT_eq hu1, andT_eq hu2]; rfl
    have HST := Lib.hid (HE.out.trans (manyT_step hjlt hu L3))
    have HUA := Lib.hid hu1
    have HUB := Lib.hid hu2
    have HU1 : Hid (u1.size ≤ maxLen) := by have := (textT_len hu1).1; have := HS.out; rw [Hid]; omega
    have HU2 : Hid (u2.size ≤ maxLen) := by have := (textT_len hu2).1; have := HU1.out; rw [Hid]; omega
    have hjm : (j3 : Int) < m3 := by rw [HNNN3.out]; omega
    have hwn := HWNN3.out
    clear hu hu1 hu2 HE
    have HCQ : Hid (CQ w (wr.alloc (.cells #[.string ⟨#[]⟩, .string ⟨#[]⟩] 119)) b s e #[.string name, .string image, .slice la1 j1 lc1, .slice la2 j2 lc2, .int .i64 cpu, .int .i64 mem, .slice la3 j3 lc3] (.slice la1 j1 lc1) cmd (.slice la2 j2 lc2) ports (.slice la3 j3 lc3) L3 wr.heap.size 119 #[.string ⟨#[]⟩, .string ⟨#[]⟩]) := HCB.out.box _ _
    clear HCB
    obtain ⟨c0, c1, f0, f1⟩ := HCQ.out.toCB.tc
    obtain ⟨⟨p0, p1, p2, p3, p4, p5, p6⟩, pf⟩ := HCQ.out.toCB.xc
    have g0 := pf 0
    have g1 := pf 1
    have g2 := pf 2
    have g3 := pf 3
    have g4 := pf 4
    have g5 := pf 5
    have g6 := pf 6
    clear pf
    obtain ⟨⟨qa, qb2⟩, qff⟩ := HCQ.out.qc2
    have qf0 := qff 0
    have qf1 := qff 1
    clear qff
    go_wp2_with (fail)
    all_goals clear hwn
    all_goals try (exfalso; omega)
    clear c0 c1 f0 f1 p0 p1 p2 p3 p4 p5 p6 g0 g1 g2 g3 g4 g5 g6 qa qb2 qf0 qf1
    generalize wr.alloc (.cells #[.string ⟨#[]⟩, .string ⟨#[]⟩] 119) = W1 at *
    generalize wr.heap.size = qb at *
    refine (rtext_at _ HS.out HUA.out).mono ?_
    rintro r V1 ⟨rfl, hf⟩
    have HCQ := Lib.hid (HCQ.out.fresh hf)
    obtain ⟨c0, c1, f0, f1⟩ := HCQ.out.toCB.tc
    obtain ⟨⟨p0, p1, p2, p3, p4, p5, p6⟩, pf⟩ := HCQ.out.toCB.xc
    have g0 := pf 0
    have g1 := pf 1
    have g2 := pf 2
    have g3 := pf 3
    have g4 := pf 4
    have g5 := pf 5
    have g6 := pf 6
    clear pf
    obtain ⟨⟨qa, qb2⟩, qff⟩ := HCQ.out.qc2
    have qf0 := qff 0
    have qf1 := qff 1
    clear qff
    clear hf
    have hqb := HCQ.out.hq
    have hq0 : ¬ qb = b := by omega
    have hq1 : ¬ b = qb := by omega
    have HCE : Hid (CQ w (((V1.setCell ⟨b, 0, none⟩ (.string u1)).setCell ⟨b, 1, none⟩ (.int .i64 d1)).setCell ⟨qb, 0, none⟩ (.string y1)) b u1 d1 #[.string name, .string image, .slice la1 j1 lc1, .slice la2 j2 lc2, .int .i64 cpu, .int .i64 mem, .slice la3 j3 lc3] (.slice la1 j1 lc1) cmd (.slice la2 j2 lc2) ports (.slice la3 j3 lc3) L3 qb 119 #[.string y1, .string ⟨#[]⟩]) := (HCQ.out.setT u1 d1).setQ 0 _
    go_wp2_with (fail)
    all_goals clear hqb hq0 hq1
    clear c0 c1 f0 f1 p0 p1 p2 p3 p4 p5 p6 g0 g1 g2 g3 g4 g5 g6 qa qb2 qf0 qf1
    have HCQ := HCE
    clear HCE
    generalize ((V1.setCell ⟨b, 0, none⟩ (.string u1)).setCell ⟨b, 1, none⟩ (.int .i64 d1)).setCell ⟨qb, 0, none⟩ (.string y1) = W2 at *
    refine (rtext_at _ HU1.out HUB.out).mono ?_
    rintro r V3 ⟨rfl, hf⟩
    have HCQ := Lib.hid (HCQ.out.fresh hf)
    obtain ⟨c0, c1, f0, f1⟩ := HCQ.out.toCB.tc
    obtain ⟨⟨p0, p1, p2, p3, p4, p5, p6⟩, pf⟩ := HCQ.out.toCB.xc
    have g0 := pf 0
    have g1 := pf 1
    have g2 := pf 2
    have g3 := pf 3
    have g4 := pf 4
    have g5 := pf 5
    have g6 := pf 6
    clear pf
    obtain ⟨⟨qa, qb2⟩, qff⟩ := HCQ.out.qc2
    have qf0 := qff 0
    have qf1 := qff 1
    clear qff
    clear hf
    have hqb := HCQ.out.hq
    have hq0 : ¬ qb = b := by omega
    have hq1 : ¬ b = qb := by omega
    have HCE : Hid (CQ w (((V3.setCell ⟨b, 0, none⟩ (.string u2)).setCell ⟨b, 1, none⟩ (.int .i64 d2)).setCell ⟨qb, 1, none⟩ (.string y2)) b u2 d2 #[.string name, .string image, .slice la1 j1 lc1, .slice la2 j2 lc2, .int .i64 cpu, .int .i64 mem, .slice la3 j3 lc3] (.slice la1 j1 lc1) cmd (.slice la2 j2 lc2) ports (.slice la3 j3 lc3) L3 qb 119 #[.string y1, .string y2]) := (HCQ.out.setT u2 d2).setQ 1 _
    have HCE := Lib.hid HCE.out.toCB
    have HSZ : Hid ((((V3.setCell ⟨b, 0, none⟩ (.string u2)).setCell ⟨b, 1, none⟩ (.int .i64 d2)).setCell ⟨qb, 1, none⟩ (.string y2)).heap.size = V3.heap.size) := by simp [Hid]
    have HN : Hid (∀ j u, [Value.string y1, .string y2][j]? = some u → ((((V3.setCell ⟨b, 0, none⟩ (.string u2)).setCell ⟨b, 1, none⟩ (.int .i64 d2)).setCell ⟨qb, 1, none⟩ (.string y2)).alloc (.cells #[.string y1, .string y2] 119)).cell? ((⟨V3.heap.size, 0, none⟩ : Addr).add j) = some u) := by
      have := news7 (((V3.setCell ⟨b, 0, none⟩ (.string u2)).setCell ⟨b, 1, none⟩ (.int .i64 d2)).setCell ⟨qb, 1, none⟩ (.string y2)) 119 [.string y1, .string y2]
      rw [HSZ.out] at this
      exact this
    have HXS : Hid (b + 3 < V3.heap.size) := lt_of_at HCQ.out.x
    go_wp2_with (at_builtin; refine Hid.out ?_)
    refine Lib.hid ?_
    clear c0 c1 f0 f1 p0 p1 p2 p3 p4 p5 p6 g0 g1 g2 g3 g4 g5 g6 qa qb2 qf0 qf1 HCQ hqb hq0 hq1
    generalize ((V3.setCell ⟨b, 0, none⟩ (.string u2)).setCell ⟨b, 1, none⟩ (.int .i64 d2)).setCell ⟨qb, 1, none⟩ (.string y2) = V2 at *
    generalize V3.heap.size = nb at *
    have HOW : Hid ((V2.alloc (.cells #[.string y1, .string y2] 119)).ownsRow (b + 4) 119 2 (.slice la3 j3 lc3) j3 (ecells L3)) := by
      have := World.ownsRow.alloc HCE.out.er (.cells #[.string y1, .string y2] 119)
      rw [HLj3.out] at this; exact this
    refine wpList_append_own _ rfl _ _ 113 rfl (b + 4) 119 ie (.agg #[.string ⟨#[]⟩, .string ⟨#[]⟩]) 2 32 Tryz.underlying113 hie hie0 hie1 hie2 rfl (by decide) _ j3 _ rfl HOW.out ⟨nb, 0, none⟩ 1 1 [.string y1, .string y2] rfl rfl HN.out (by simp [Value.oneCell']) (by unfold maxLen; omega) (by omega) (by rw [World.size_alloc, HSZ.out]; have := HXS.out; omega) ?_
    intro v' V6 hown' hgrow _
    obtain ⟨g', cap', rfl⟩ := ownsRow_succ hown'
    have HCF := Lib.hid ((HCE.out.fresh ((Fresh.refl V2).alloc _)).growE (E' := L3 ++ [(y1, y2)]) hgrow (by rw [ecells_snoc, List.length_append, HLj3.out]; exact hown'))
    clear hown' hgrow
    obtain ⟨c0, c1, f0, f1⟩ := HCF.out.tc
    obtain ⟨⟨p0, p1, p2, p3, p4, p5, p6⟩, pf⟩ := HCF.out.xc
    have g0 := pf 0
    have g1 := pf 1
    have g2 := pf 2
    have g3 := pf 3
    have g4 := pf 4
    have g5 := pf 5
    have g6 := pf 6
    clear pf
    go_wp2
    have HCG : Hid (CB w (V6.setCell ⟨b + 3, 6, none⟩ (.slice (some ⟨g', 0, none⟩) (j3 + 1) cap')) b u2 d2 #[.string name, .string image, .slice la1 j1 lc1, .slice la2 j2 lc2, .int .i64 cpu, .int .i64 mem, .slice (some ⟨g', 0, none⟩) (j3 + 1) cap'] (.slice la1 j1 lc1) cmd (.slice la2 j2 lc2) ports (.slice (some ⟨g', 0, none⟩) (j3 + 1) cap') (L3 ++ [(y1, y2)])) := HCF.out.setX 6 _
    go_roundw
    case rel =>
      refine ⟨j3 + 1, u2, d2, some ⟨g', 0, none⟩, cap', L3 ++ [(y1, y2)], by simp, by omega, HU2.out, ?_, HST.out, HCG.out⟩
      rw [Hid, List.length_append, HLj3.out]; rfl
    case measure => simp [intOf]; omega
  obtain rfl : j3 = N3 := by omega
  obtain ⟨r1, r2, r3⟩ : t' = s ∧ f' = e ∧ env = L3 := by
    have h1 := H10.out.symm.trans HE.out
    rw [Nat.sub_self] at h1
    simp only [aheadM, manyT, Prod.mk.injEq, List.append_nil] at h1
    exact h1
  subst r1 r2 r3
  clear HE H10 HS hjlt hj
  have hwn := HWNN3.out
  have hjm : ¬ (j3 : Int) < m3 := by rw [HNNN3.out]; omega
  obtain ⟨c0, c1, f0, f1⟩ := HCB.out.tc
  obtain ⟨⟨p0, p1, p2, p3, p4, p5, p6⟩, pf⟩ := HCB.out.xc
  have g0 := pf 0
  have g1 := pf 1
  have g2 := pf 2
  have g3 := pf 3
  have g4 := pf 4
  have g5 := pf 5
  have g6 := pf 6
  clear pf
  go_wp2_with (fail)
  all_goals clear hwn hjm
  all_goals try (exfalso; omega)
  clear c0 c1 f0 f1 p0 p1 p2 p3 p4 p5 p6 g0 g1 g2 g3 g4 g5 g6
  generalize wr = U at *
  obtain ⟨c0, c1, f0, f1⟩ := HCB.out.tc
  obtain ⟨⟨p0, p1, p2, p3, p4, p5, p6⟩, pf⟩ := HCB.out.xc
  have g0 := pf 0
  have g1 := pf 1
  have g2 := pf 2
  have g3 := pf 3
  have g4 := pf 4
  have g5 := pf 5
  have g6 := pf 6
  clear pf
  obtain ⟨⟨r0, r1, rf⟩, q0, q1, q2, q3, q4, q5, q6, qf⟩ := HCB.out.rc
  have rg0 := rf 0
  have rg1 := rf 1
  have qg0 := qf 0
  have qg1 := qf 1
  have qg2 := qf 2
  have qg3 := qf 3
  have qg4 := qf 4
  have qg5 := qf 5
  have qg6 := qf 6
  clear rf qf
  have hb1 : ¬ b = b + 1 := by omega
  have hb2 : ¬ b = b + 1 + 1 := by omega
  have hb3 : ¬ b + 1 + 1 = b := by omega
  have hb4 : ¬ b + 1 = b := by omega
  go_region_held3 (fun w' => (w'.cell? ⟨b, 0, none⟩ = some (.string t') ∧ w'.cell? ⟨b, 1, none⟩ = some (.int .i64 f') ∧ w'.cell? ⟨b + 3, 0, none⟩ = some (.string name) ∧ w'.cell? ⟨b + 3, 1, none⟩ = some (.string image) ∧ w'.cell? ⟨b + 3, 2, none⟩ = some (.slice la1 j1 lc1) ∧ w'.cell? ⟨b + 3, 3, none⟩ = some (.slice la2 j2 lc2) ∧ w'.cell? ⟨b + 3, 4, none⟩ = some (.int .i64 cpu) ∧ w'.cell? ⟨b + 3, 5, none⟩ = some (.int .i64 mem) ∧ w'.cell? ⟨b + 3, 6, none⟩ = some (.slice la3 j3 lc3)))
    (first | go_keep | (refine ⟨?_, ?_, ?_, ?_, ?_, ?_, ?_, ?_, ?_⟩ <;> (try simp only [World.cell?_drew]) <;> (repeat' (first | assumption | (refine cell_set_ne3 ?_ (by omega))))))
    (fail)
  all_goals go_wp2
  obtain ⟨WF, hWF⟩ : ∃ WF, WF = (((((((((U.setCell ⟨b + 1, 0, none⟩ (.string t')).setCell ⟨b + 1, 1, none⟩ (.int .i64 f')).setCell ⟨b + 1 + 1, 0, none⟩ (.string name)).setCell ⟨b + 1 + 1, 1, none⟩ (.string image)).setCell ⟨b + 1 + 1, 2, none⟩ (.slice la1 j1 lc1)).setCell ⟨b + 1 + 1, 3, none⟩ (.slice la2 j2 lc2)).setCell ⟨b + 1 + 1, 4, none⟩ (.int .i64 cpu)).setCell ⟨b + 1 + 1, 5, none⟩ (.int .i64 mem)).setCell ⟨b + 1 + 1, 6, none⟩ (.slice la3 j3 lc3)).drew := ⟨_, rfl⟩
  rw [← hWF]
  obtain ⟨⟨k0, k1⟩, ⟨l0, l1, l2, l3, l4, l5, l6⟩, hfr, hlr, hpr, her⟩ := HCB.out.fin hWF
  clear hWF
  have hm : CmOwn w.heap.size WF (⟨⟨name, image, cmd, ports, cpu, mem, env⟩, la1, lc1, la2, lc2, la3, lc3⟩ : CM) := CmOwn.mk' HLj1.out HLj2.out HLj3.out HCB.out.hb hlr hpr her
  exact bodyPost_ret (v := .tuple #[.agg #[.string t', .int .i64 f'], .agg #[.string name, .string image, .slice la1 j1 lc1, .slice la2 j2 lc2, .int .i64 cpu, .int .i64 mem, .slice la3 j3 lc3], .bool false]) (by simp [results, Tryz.results68, go_sem, k0, k1, l0, l1, l2, l3, l4, l5, l6]) rfl ⟨hfr, .inl ⟨⟨⟨name, image, cmd, ports, cpu, mem, env⟩, la1, lc1, la2, lc2, la3, lc3⟩, by rw [← HLj1.out, ← HLj2.out, ← HLj3.out]; rfl, rfl, hm⟩⟩
end Go.Proofs.YtldncgelghcjeaaGreatDoor.K
