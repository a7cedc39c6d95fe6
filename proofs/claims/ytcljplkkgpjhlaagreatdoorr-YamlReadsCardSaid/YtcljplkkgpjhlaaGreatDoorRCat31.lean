/-
  Parts of the proof: YRKeys.
-/
import Derived.Test.YtcljplkkgpjhlaaGreatDoorRCat30
set_option maxRecDepth 100000
set_option maxHeartbeats 8000000
namespace Go.Proofs.YtcljplkkgpjhlaaGreatDoorR
namespace y
open Go.ChangeShapes Go.WideShapes Go.ChangeAt Go.RowKit
attribute [local go_sem ↓] Go.wp_at_zero Go.wp_at_succ
variable {w : World}
theorem rblk_keys (nn : Nat) (ih : SayR nn) (R : List Rw) (g c at0 e0 ins : Nat) (w : World) (hR : RowsAt0 w (some ⟨g, 0, none⟩) c R) (hF : Fine R) (rl : Nat) (hrl : R.length = rl) (h1 : at0 < e0) (h2 : e0 ≤ R.length) (hnn : e0 - at0 ≤ nn + 1) (hi : ins < 32) (hd : (R[at0]'(by omega)).dash = false) (hs0 : splitM (R[at0]'(by omega)).text = ((splitM (R[at0]'(by omega)).text).1, 0)) (hs1 : 0 ≤ (splitM (R[at0]'(by omega)).text).1) :
    Calls Tryz.prog 28 #[.slice (some ⟨g, 0, none⟩) rl c, .int .i64 (at0 : Int), .int .i64 (e0 : Int), .int .i64 (ins : Int)] w (RBIs w (pairs (R[at0]'(by omega)).indent ins (cutP R at0 e0) [])) := by
  obtain ⟨i0, z0, hii, hz0, hzc, hz1, hz2⟩ := v.info_seven v.info56
  have HROW : Hid (∀ (k : Nat) (hk : k < R.length) (W : World), Fresh w W → RowC W g k R[k]) := fun k hk W f => by
    obtain ⟨g', e, _, hc⟩ := row_at (hR.move f) k hk
    cases e
    exact hc
  have HEND : Hid (∀ (k : Nat) (ind : Int) (W : World), k ≤ rl → Fresh w W → Calls Tryz.prog 60 #[.slice (some ⟨g, 0, none⟩) rl c, .int .i64 (k : Int), .int .i64 ind] W fun e w' => e = .returned (.int .i64 ((k + (seg ind (R.drop k)).length : Nat) : Int)) ∧ W = w') := fun k ind W hk f => by
    subst hrl
    exact rend_any R _ c W (hR.move f) hF.len k ind hk
  have HBLK : Hid (∀ (a2 e2 : Nat) (W : World), Fresh w W → a2 ≤ e2 → e2 ≤ e0 → at0 < a2 → Calls Tryz.prog 28 #[.slice (some ⟨g, 0, none⟩) rl c, .int .i64 (a2 : Int), .int .i64 (e2 : Int), .int .i64 ((ins : Int) + 1)] W (RBP W (blk (cutP R a2 e2) (ins + 1)))) := fun a2 e2 W f k1 k2 k3 => by
    subst hrl
    have := ih R (some ⟨g, 0, none⟩) c a2 e2 (ins + 1) W (hR.move f) hF k1 (by omega) (by omega) (by omega)
    rw [show ((ins + 1 : Nat) : Int) = (ins : Int) + 1 by omega] at this
    exact this.mono fun e w' h => rbp h
  have HFINE : Hid (∀ (k : Nat) (hk : k < R.length), (R[k]).dash = false → (R[k]).text.length ≤ 90000 ∧ (R[k]).text ≠ []) := fun k hk hd => by
    obtain ⟨_, _, h3, h4⟩ := hF.row R[k] (List.getElem_mem _)
    exact ⟨h3, (h4.resolve_left (by rw [hd]; simp)).1⟩
  have HN : Hid (rl ≤ 1000000) := by rw [← hrl]; exact hF.len
  have q1 : ((at0 : Int) == (e0 : Int)) = false := beq_eq_false_iff_ne.2 (by omega)
  have q2 : (0 : Int) ≤ (at0 : Int) ∧ (at0 : Int) < (rl : Int) := ⟨by omega, by omega⟩
  have h32 : ¬ (32 : Int) ≤ (ins : Int) := by omega
  have hwi : IntKind.i64.wrap ((ins : Int) + 1) = (ins : Int) + 1 := IntWalk.i64_in _ (by omega)
  have HSP0 : Hid (∀ W : World, Calls Tryz.prog 58 #[.string (tx (R[at0]'(by omega)).text)] W fun e w' => e = .returned (.tuple #[.int .i64 (splitM (R[at0]'(by omega)).text).1, .int .i64 0]) ∧ Fresh W w') := fun W => by
    have k := HFINE.out at0 (by omega) hd
    have := rsplits_any (R[at0]'(by omega)).text W k.1 k.2
    rw [hs0] at this
    exact this
  have hsp1 := hs1
  obtain ⟨d0, d1, d2, d3⟩ := HROW.out at0 (by omega) _ ((Fresh.refl w).alloc (.cells zcells 36 (0, 0)))
  rw [hd] at d2
  have HB := Lib.hid (v.at_new w (.cells zcells 36 (0, 0)))
  have HF0 := Lib.hid ((Fresh.refl w).alloc (.cells zcells 36 (0, 0)))
  have HS0 : Hid ((w.alloc (.cells zcells 36 (0, 0))).heap.size = w.heap.size + 1) := World.size_alloc _ _
  have HE0 : Hid (e0 ≤ rl) := by rw [← hrl]; exact h2
  have HA0 := Lib.hid h1
  clear hR hF hd hnn ih hs0 hs1
  have HRL := Lib.hid hrl
  obtain ⟨ind, hind⟩ : ∃ ind : Nat, ind = (R[at0]'(by omega)).indent := ⟨_, rfl⟩
  rw [← hind] at d1 ⊢
  generalize (R[at0]'(by omega)).line = ln0 at *
  generalize (R[at0]'(by omega)).text = tx0 at *
  generalize (splitM tx0).1 = P0 at *
  clear hind hrl h2
  go_enter Tryz.func28, Tryz.ntmps28
  go_upto_region 1 with (fail)
  generalize hw0 : w.alloc (.cells zcells 36 (0, 0)) = w0 at *
  generalize hsz : w.heap.size = sz at *
  have HSZ := Lib.hid hsz
  clear hw0 hsz
  go_wp2_with fail
  refine (HSP0.out _).mono ?_
  rintro e wS ⟨rfl, hfS⟩
  have HFS := Lib.hid (HF0.out.trans hfS)
  have HBS := Lib.hid (v.Fresh.at hfS HB.out)
  have HSS : Hid (sz + 1 ≤ wS.heap.size) := by have := hfS.size; rw [HS0.out] at this; exact this
  clear hfS HF0 HB HS0 HSP0
  go_wp2
  clear d0 d1 d2 d3 q1 q2 hsp1
  have HL0 : Hid (RKeysAt w (wS.alloc (.cells (kcells none 0 0) 36 (0, 0))) R ind ins at0 e0 sz wS.heap.size [] at0 none 0) := by
    refine ⟨(v.at_alloc HBS.out), v.at_new wS _, World.ownsRow_nil _ _ _ _, (fun x hx => by cases hx), (fun x hx => by cases hx), HFS.out.alloc _, rfl, Nat.zero_le _, Nat.le_of_lt HA0.out, HSS.out⟩
  generalize wS.alloc (.cells (kcells none 0 0) 36 (0, 0)) = w1 at *
  generalize wS.heap.size = vb at *
  clear HBS HFS HSS
  go_loopw [18] (fun a18 wr => ∃ (at1 : Nat) (xs : List (ByteArray × v.M)) (ka : Option Addr) (kc : Nat), a18 = .int .i64 (at1 : Int) ∧ at0 ≤ at1 ∧ Hid (RKeysAt w wr R ind ins at0 e0 sz vb xs at1 ka kc)) (fun a18 _ => e0 - (intOf a18).toNat)
  case atStart => exact ⟨at0, [], none, 0, rfl, Nat.le_refl _, HL0.out⟩
  case round =>
    obtain ⟨at1, xs, ka, kc, rfl, hge, HL⟩ := hrel
    clear HL0
    have HRO := Lib.hid (HL.out.rb)
    by_cases hlt : at1 < e0
    · have hlr : at1 < rl := by have := HE0.out; omega
      have hlR : at1 < R.length := by rw [HRL.out]; exact hlr
      obtain ⟨d0, d1, d2, d3⟩ := HROW.out at1 hlR wr HL.out.fr
      have HCC := Lib.hid (cutP_cons (R := R) hlt (by rw [HRL.out]; exact HE0.out))
      have qb : (0 : Int) ≤ (at1 : Int) ∧ (at1 : Int) < (rl : Int) := ⟨by omega, by omega⟩
      have hla : (at1 : Int) < (e0 : Int) := by omega
      have hw1 : IntKind.i64.wrap ((at1 : Int) + 1) = (at1 : Int) + 1 := IntWalk.i64_in _ (by have := HN.out; omega)
      by_cases hbad : (R[at1]'hlR).indent ≠ ind ∨ (R[at1]'hlR).dash = true
      · have HI : Hid (pairs ind ins (cutP R at0 e0) [] = .error (at1, 6)) := by
          rw [Hid, HL.out.eq, HCC.out, pairs_bad]
          rcases hbad with h | h
          · exact .inl h
          · by_cases h' : (R[at1]'hlR).indent = ind
            · exact .inr ⟨h', by rw [h]; decide⟩
            · exact .inl h'
        have HC : Hid (∀ u0 u1 u2 u3 u4 u5 : Value, RBIs w (pairs ind ins (cutP R at0 e0) []) (.returned (.tuple #[.agg #[.int .i64 0, .bool false, .int .i64 0, .string ⟨#[]⟩, .slice none 0 0, .slice none 0 0], .int .i64 (at1 : Int), .int .i64 6])) ((((((wr.setCell ⟨sz, 0, none⟩ u0).setCell ⟨sz, 1, none⟩ u1).setCell ⟨sz, 2, none⟩ u2).setCell ⟨sz, 3, none⟩ u3).setCell ⟨sz, 4, none⟩ u4).setCell ⟨sz, 5, none⟩ u5)) := by exact close_err2 HI.out rfl HSZ.out HL.out.fr
        obtain ⟨c0, c1, c2, c3, c4, c5, f, lt⟩ := HRO.out.facts
        have f0 := f 0; have f1 := f 1; have f2 := f 2; have f3 := f 3; have f4 := f 4; have f5 := f 5
        clear f
        clear HI HCC
        by_cases hie : (R[at1]'hlR).indent = ind
        · have hda : (R[at1]'hlR).dash = true := by rcases hbad with h | h; exact absurd hie h; exact h
          rw [hie] at d1
          rw [hda] at d2
          clear hbad hie hda
          go_wp2
          refine bodyPost_ret (v := .tuple #[.agg #[.int .i64 0, .bool false, .int .i64 0, .string ⟨#[]⟩, .slice none 0 0, .slice none 0 0], .int .i64 (at1 : Int), .int .i64 6]) (by simp [results, Tryz.results28, go_sem, *]) rfl ?_
          exact HC.out _ _ _ _ _ _
        · have gi : (((R[at1]'hlR).indent : Int) != (ind : Int)) = true := by simp; omega
          generalize (R[at1]'hlR).indent = ri at *
          clear hbad hie
          go_wp2
          refine bodyPost_ret (v := .tuple #[.agg #[.int .i64 0, .bool false, .int .i64 0, .string ⟨#[]⟩, .slice none 0 0, .slice none 0 0], .int .i64 (at1 : Int), .int .i64 6]) (by simp [results, Tryz.results28, go_sem, *]) rfl ?_
          exact HC.out _ _ _ _ _ _
      · have hie : (R[at1]'hlR).indent = ind := by by_cases h : (R[at1]'hlR).indent = ind; exact h; exact absurd (.inl h) hbad
        have hda : (R[at1]'hlR).dash = false := by cases h : (R[at1]'hlR).dash with | false => rfl | true => exact absurd (.inr h) hbad
        rw [hie] at d1
        rw [hda] at d2
        clear hbad
        obtain ⟨hl9, hlne⟩ := HFINE.out at1 hlR hda
        obtain ⟨X, hX⟩ : ∃ X : Nat, X = at1 + 1 + (seg (ind : Int) (R.drop (at1 + 1))).length := ⟨_, rfl⟩
        obtain ⟨nx, hnx⟩ : ∃ nx : Nat, nx = nextP R (ind : Int) (at1 + 1) e0 := ⟨_, rfl⟩
        have hnX : nx = min X e0 := by rw [hnx, nextP, hX]
        have HNB : Hid (at1 + 1 ≤ nx ∧ nx ≤ e0) := by
          have := nextP_le R (ind : Int) (a := at1 + 1) (e := e0) (by omega)
          rw [hnx]; exact this
        have HEN : Hid (Calls Tryz.prog 60 #[.slice (some ⟨g, 0, none⟩) rl c, .int .i64 ((at1 : Int) + 1), .int .i64 (ind : Int)] wr fun e w' => e = .returned (.int .i64 (X : Int)) ∧ wr = w') := by
          have := HEND.out (at1 + 1) (ind : Int) wr (by omega) HL.out.fr
          rw [show ((at1 + 1 : Nat) : Int) = (at1 : Int) + 1 by omega, ← hX] at this
          exact this
        have HBL : Hid (∀ W : World, Fresh wr W → Calls Tryz.prog 28 #[.slice (some ⟨g, 0, none⟩) rl c, .int .i64 ((at1 : Int) + 1), .int .i64 (nx : Int), .int .i64 ((ins : Int) + 1)] W (RBP W (blk (cutP R (at1 + 1) nx) (ins + 1)))) := fun W f => by
          have := HBLK.out (at1 + 1) nx W (HL.out.fr.trans f) HNB.out.1 HNB.out.2 (by omega)
          rw [show ((at1 + 1 : Nat) : Int) = (at1 : Int) + 1 by omega] at this
          exact this
        have HSPL : Hid (Calls Tryz.prog 58 #[.string (tx (R[at1]'hlR).text)] wr fun e w' => e = .returned (.tuple #[.int .i64 (splitM (R[at1]'hlR).text).1, .int .i64 (splitM (R[at1]'hlR).text).2]) ∧ Fresh wr w') := rsplits_any _ wr hl9 hlne
        have HCODE : Hid ((entM (R[at1]'hlR).text).1 ≠ 0 → pairs ind ins (cutP R at0 e0) [] = .error (at1, (entM (R[at1]'hlR).text).1)) := fun h => by rw [HL.out.eq, HCC.out, pairs_code (r := ⟨at1, (R[at1]'hlR).indent, (R[at1]'hlR).dash, (R[at1]'hlR).text⟩) hie hda h]
        have HNONE : Hid (entM (R[at1]'hlR).text = (0, none) → pairs ind ins (cutP R at0 e0) [] = .error (at1, 6)) := fun h => by rw [HL.out.eq, HCC.out, pairs_none (r := ⟨at1, (R[at1]'hlR).indent, (R[at1]'hlR).dash, (R[at1]'hlR).text⟩) hie hda h]
        have HKEYE : Hid (∀ m : Ent, entM (R[at1]'hlR).text = (0, some m) → keyE m (xs.map (·.1)) ≠ 0 → pairs ind ins (cutP R at0 e0) [] = .error (at1, keyE m (xs.map (·.1)))) := fun m hm hk => by
          have hk2 : keyE m ((xs.map plainP).map (·.1)) ≠ 0 := by rw [plainP_names]; exact hk
          rw [HL.out.eq, HCC.out, pairs, if_neg (by simp [hie, hda]), if_neg (by rw [hm]; simp), hm]
          dsimp only
          rw [if_pos hk2, plainP_names]
        have HVAL : Hid (∀ (m : Ent) (x : Nat × Int), entM (R[at1]'hlR).text = (0, some m) → keyE m (xs.map (·.1)) = 0 → valM R ins at1 nx m = .error x → pairs ind ins (cutP R at0 e0) [] = .error x) := fun m x hm hk hv => by
          rw [HL.out.eq, pairs_val hlt (by rw [HRL.out]; exact HE0.out) hie hda hm (by rw [plainP_names]; exact hk), ← hnx, hv]
        have HMORE : Hid (∀ (W3 W4 : World) (e : Ent) (m : v.M) (y : v.V) (g2 cap : Nat), entM (R[at1]'hlR).text = (0, some e) → keyE e (xs.map (·.1)) = 0 → e.key.length ≤ 90000 → m.plain = y → valM R ins at1 nx e = .ok y → m.New wr.heap.size W3 → Fresh wr W3 →
            W4.ownsRow (vb + 1) 69 7 (.slice (some ⟨g2, 0, none⟩) (xs.length + 1) cap) (xs.length + 1) (v.pcells xs ++ v.pcellsOf (tx e.key, m)) → W3.grownBy W4 (Value.slice ka xs.length kc).ownBlock → ((Value.slice ka xs.length kc).ownBlock = some g2 ∨ g2 = W3.heap.size) →
            RKeysAt w (W4.setCell ⟨vb, 5, none⟩ (.slice (some ⟨g2, 0, none⟩) (xs.length + 1) cap)) R ind ins at0 e0 sz vb (xs ++ [(tx e.key, m)]) nx (some ⟨g2, 0, none⟩) cap) :=
          fun W3 W4 e m y g2 cap k0 k00 k000 k1 k2 k3 k4 k5 k6 k7 => HL.out.more HSZ.out hlt (by rw [HRL.out]; exact HE0.out) hie hda k0 k00 k000 hnx k1 k2 k3 k4 k5 k6 k7
        have HTOLD : Hid (∀ p x, blk (cutP R (at1 + 1) nx) (ins + 1) = .error (p, x) → x ≠ 0) := fun p x hx => (blk_told hx).1
        have HGET : Hid (∀ (key : ByteArray) (W : World), Fresh wr W → Calls Tryz.prog 62 #[.agg #[.int .i64 5, .bool false, .int .i64 0, .string ⟨#[]⟩, .slice none 0 0, .slice ka xs.length kc], .string key] W (RGetP W key (xs.map (·.1)))) := fun key W f => rget_keys xs ka kc key W ((HL.out.mapAt (by have := HN.out; omega)).move f)
        have HVM : Hid (∀ m : Ent, valM R ins at1 nx m = if m.behind = [] then blk (cutP R (at1 + 1) nx) (ins + 1) else if (scM m.behind (ins + 1)).1 ≠ 0 then .error (at1, (scM m.behind (ins + 1)).1) else if at1 + 1 < nx then .error (at1 + 1, 6) else .ok (scM m.behind (ins + 1)).2) := fun m => rfl
        have HCOD := Lib.hid (splitM_code (R[at1]'hlR).text)
        have HNX := Lib.hid hnX
        clear hnx hX hie hda HCC hnX
        generalize (R[at1]'hlR).line = rln at *
        generalize (R[at1]'hlR).text = l at *
        generalize blk (cutP R (at1 + 1) nx) (ins + 1) = BK at *
        generalize valM R ins at1 nx = VM at *
        generalize xs.map (·.1) = NM at *
        have HXL : Hid (xs.length + 1 ≤ 1000000) := by have := HL.out.len; have := HN.out; rw [Hid]; omega
        have HVB : Hid (vb < wr.heap.size) := v.lt_of_at HL.out.vb
        have HSV : Hid (sz < vb) := HL.out.low
        generalize hxn : xs.length = xn at *
        have HBW := Lib.hid hxn
        clear hxn
        have htl : (tx l).size = l.length := tx_size l
        have hs9 : (tx l).size ≤ 90000 := by rw [htl]; exact hl9
        have HTX : Hid ((tx l).data.toList = l) := tx_toList l
        generalize htx : tx l = s at *
        have HTXL : Hid (s = tx l) := htx.symm
        clear htx
        go_wp2_with fail
        refine HEN.out.mono ?_
        rintro e w2 ⟨rfl, rfl⟩
        clear HEN HEND
        go_upto_if 127 with (fail)
        go_cut [18, 19] (fun a18 a19 wc => a18 = .int .i64 (at1 : Int) ∧ a19 = .int .i64 (nx : Int) ∧ wr = wc)
        case first =>
          by_cases hx : e0 < X
          · have gx : (e0 : Int) < (X : Int) := by omega
            obtain rfl : nx = e0 := by have := HNX.out; omega
            clear HNX
            go_wp2
            go_meet
            case rel => exact ⟨rfl, rfl, rfl⟩
          · have gx : ¬ (e0 : Int) < (X : Int) := by omega
            obtain rfl : nx = X := by have := HNX.out; omega
            clear HNX
            go_wp2
            go_meet
            case rel => exact ⟨rfl, rfl, rfl⟩
        case rest =>
          obtain ⟨rfl, rfl, rfl⟩ := hcut
          clear d0 d1 d2
          refine (‹∀ (a : Act) (w : World), Code.wp Tryz.prog _ _ a w → _›) _ _ ?_
          refine keys_mid _ (by kernel_rfl) _ R ind ins at0 e0 sz vb at1 nx xn g c rl xs ka kc w wr l s NM BK VM _ _ _ _ _ _ _ _ _ _ _ _ _ _ _ _ _ _ _ _ _ _ _ _ _ _ _ _ _ _ _ _ _ _ _ _ _ _ _ _ _ _ _ _ _ _ _ _ _ _ _ _ _ _ _ _ _ _ _ _ _ _ _ _ _ _ _ _ _ _ _ _ _ _ _ _ _ _ _ _ _ _ _ _ _ _ _ _ _ _ _ _ _ _ _ _ _ _ _ _ _ _ _ _ _ _ _ _ _ _ _ _ _ _ _ _ _ _ _ _ _ _ _ _ _ _ _ _ _ _ _ _ _ _ _ _ _ _ _ _ _ _ _ _ _ _ _ _ _ _ _ _ _ _ _ _ _ _ _ _ _ _ _ _ _ _ _ _ _ _ _ _ _ _ _ _ _ _ _ _ _ _ _ _ _ _ _ _ _ _ _ _ _ _ _ _ _ _ _ _ _ _ _ _ _ _ _ _ _ _ _ _ _ _ _ _ _ _ _ _ _ _ _ _ _ _ _ _ _ _ _ _ _ _ _ _ _ _ _ _ _ _ _ _ _ _ _ _ _ _ _ _ _ _ _ _ _ _ _ _ _ _ _ _ _ _ _ _ (by omega) hl9 htl hs9 (by have := HN.out; omega) hlr d3 HSZ HBW HL HTX HXL HCOD HTXL HSPL HCODE HNONE HKEYE HVAL HMORE HTOLD HGET HVM HBL ?_ ?_
          · exact Lib.hid fun a W h => h
          · refine Lib.hid ?_
            intro xs2 ka2 kc2 W2 HL2 y9 y10 y19 y20 y21 y22 y23 y24 y25 y26 y27 y28 y29 y30 y31 y32 y33 y34 y35 y98 y99 y100 y101 y102 y103 y104 y105 y106 y107 y108 y109 y110 y111 y112 y113 y114 y115 y116 y117 y118 y119 y120 y121 y122 y123 y124 y125 y126 y127 y128 y129 y130 y131 y132 y133 y134 y135 y136 y137 y138 y139 y140 y141 y142 y143 y144 y145 y146 y147 y148 y149 y150 y151 y152 y153 y154 y155 y156 y157 y158 y159 y160 y161 y162 y163 y164 y165 y166 y167 y168 y169 y170 y171 y172 y173 y174 y175 y176 y177 y178 y179 y180 y181 y182 y183 y184 y185 y186 y187 y188 y189 y190 y191 y192 y193 y194 y195 y196 y197 y198 y199 y200 y201 y202 y203 y204 y205 y206 y207 y208 y209 y210 y211 y212 y213 y214 y215 y216 y217 y218 y219 y220 y221 y222 y223 y224 y225 y226 y227 y228 y229 y230 y231 y232 y233 y234 y235 y236 y237 y238 y239 y240 y241 y242 y243 y244 y245 y246 y247 y248 y249 y250 y251 y252 y253 y254 y255 y256 y257 y258 y259 y260 y261 y262 y263 y264 y265 y266 y267 y268 y269 y270 y271 y272 y273 y274
            go_roundw
            case rel =>
              (repeat apply Exists.intro)
              exact ⟨⟨nx, xs2, _, _, rfl, by have := HNB.out; omega, HL2⟩, rfl⟩
            case measure => have := HNB.out; simp [intOf]; omega
    · obtain rfl : at1 = e0 := by have := HL.out.le; omega
      have hla : ¬ (at1 : Int) < (at1 : Int) := by omega
      have HD : Hid (∀ u0 u1 u2 u3 u4 u5 : Value, RBIs w (pairs ind ins (cutP R at0 at1) []) (.returned (.tuple #[.agg #[.int .i64 5, .bool false, .int .i64 0, .string ⟨#[]⟩, .slice none 0 0, .slice ka xs.length kc], .int .i64 0, .int .i64 0])) ((((((wr.setCell ⟨sz, 0, none⟩ u0).setCell ⟨sz, 1, none⟩ u1).setCell ⟨sz, 2, none⟩ u2).setCell ⟨sz, 3, none⟩ u3).setCell ⟨sz, 4, none⟩ u4).setCell ⟨sz, 5, none⟩ u5)) :=
        HL.out.done HSZ.out (by have := HE0.out; have := HN.out; omega)
      obtain ⟨x0, x1, x2, x3, x4, x5, _, _⟩ := six_facts HL.out.vb
      obtain ⟨c0, c1, c2, c3, c4, c5, f, lt⟩ := HRO.out.facts
      have f0 := f 0; have f1 := f 1; have f2 := f 2; have f3 := f 3; have f4 := f 4; have f5 := f 5
      clear f
      go_wp2
      refine bodyPost_ret (v := .tuple #[.agg #[.int .i64 5, .bool false, .int .i64 0, .string ⟨#[]⟩, .slice none 0 0, .slice ka xs.length kc], .int .i64 0, .int .i64 0]) (by simp [results, Tryz.results28, go_sem, *]) rfl ?_
      exact HD.out _ _ _ _ _ _
end y
end Go.Proofs.YtcljplkkgpjhlaaGreatDoorR
