/-
  Parts of the proof: YRList.
-/
import Derived.Test.YtcljplkkgpjhlaaGreatDoorRCat26
import Derived.Test.YtcljplkkgpjhlaaGreatDoorRCat15
import Derived.Deep.CutBlock
import Derived.Deep.CutRange
import Derived.Deep.DeepCutAuto
set_option maxRecDepth 100000
set_option maxHeartbeats 8000000
namespace Go.Proofs.YtcljplkkgpjhlaaGreatDoorR
namespace y
open Go.ChangeShapes Go.WideShapes Go.ChangeAt Go.RowKit
attribute [local go_sem ↓] Go.wp_at_zero Go.wp_at_succ
variable {w : World}
theorem close_err {w W : World} {sz p : Nat} {c : Int} (hw : w.heap.size = sz) (hf : Fresh w W) (u0 u1 u2 u3 u4 u5 : Value) :
    RBIs w (.error (p, c)) (.returned (.tuple #[.agg #[.int .i64 0, .bool false, .int .i64 0, .string ⟨#[]⟩, .slice none 0 0, .slice none 0 0], .int .i64 (p : Int), .int .i64 c])) ((((((W.setCell ⟨sz, 0, none⟩ u0).setCell ⟨sz, 1, none⟩ u1).setCell ⟨sz, 2, none⟩ u2).setCell ⟨sz, 3, none⟩ u3).setCell ⟨sz, 4, none⟩ u4).setCell ⟨sz, 5, none⟩ u5) :=
  ⟨rfl, Wr.toFresh (p := fun k => w.heap.size ≤ k) ((Wr.of_fresh hf).set6 (.inl (Nat.le_of_eq hw)) _ _ _ _ _ _) (fun k hk h => by omega)⟩
theorem rblk_list (nn : Nat) (ih : SayR nn) (R : List Rw) (g c at0 e0 ins : Nat) (w : World) (hR : RowsAt0 w (some ⟨g, 0, none⟩) c R) (hF : Fine R) (rl : Nat) (hrl : R.length = rl) (h1 : at0 < e0) (h2 : e0 ≤ R.length) (hnn : e0 - at0 ≤ nn + 1) (hi : ins < 32) (hd : (R[at0]'(by omega)).dash = true) :
    Calls Tryz.prog 28 #[.slice (some ⟨g, 0, none⟩) rl c, .int .i64 (at0 : Int), .int .i64 (e0 : Int), .int .i64 (ins : Int)] w (RBIs w (items (R[at0]'(by omega)).indent ins (cutP R at0 e0) [])) := by
  obtain ⟨i0, z0, hii, hz0, hzc, hz1, hz2⟩ := v.info_six v.info33s
  have HROW : Hid (∀ (k : Nat) (hk : k < R.length) (W : World), Fresh w W → RowC W g k R[k]) := fun k hk W f => by
    obtain ⟨g', e, _, hc⟩ := row_at (hR.move f) k hk
    cases e
    exact hc
  have HEND : Hid (∀ (k : Nat) (ind : Int) (W : World), k ≤ rl → Fresh w W → Calls Tryz.prog 60 #[.slice (some ⟨g, 0, none⟩) rl c, .int .i64 (k : Int), .int .i64 ind] W fun e w' => e = .returned (.int .i64 ((k + (seg ind (R.drop k)).length : Nat) : Int)) ∧ W = w') := fun k ind W hk f => by
    subst hrl
    exact rend_any R _ c W (hR.move f) hF.len k ind hk
  have HBLK : Hid (∀ (a2 e2 : Nat) (W : World), Fresh w W → a2 ≤ e2 → e2 ≤ e0 → at0 < a2 → Calls Tryz.prog 28 #[.slice (some ⟨g, 0, none⟩) rl c, .int .i64 (a2 : Int), .int .i64 (e2 : Int), .int .i64 ((ins : Int) + 1)] W (RBP W (blk (cutP R a2 e2) (ins + 1)))) := fun a2 e2 W f k1 k2 k3 => by
    subst hrl
    have := ih R (some ⟨g, 0, none⟩) c a2 e2 (ins + 1) W (hR.move f) hF k1 (by omega) (by omega) (by omega)
    rw [show ((ins + 1 : Nat) : Int) = (ins : Int) + 1 by omega] at this
    exact this.mono fun e w' h => rbp h
  have HN : Hid (rl ≤ 1000000) := by rw [← hrl]; exact hF.len
  have q1 : ((at0 : Int) == (e0 : Int)) = false := beq_eq_false_iff_ne.2 (by omega)
  have q2 : (0 : Int) ≤ (at0 : Int) ∧ (at0 : Int) < (rl : Int) := ⟨by omega, by omega⟩
  have h32 : ¬ (32 : Int) ≤ (ins : Int) := by omega
  have hwi : IntKind.i64.wrap ((ins : Int) + 1) = (ins : Int) + 1 := IntWalk.i64_in _ (by omega)
  obtain ⟨d0, d1, d2, d3⟩ := HROW.out at0 (by omega) _ ((Fresh.refl w).alloc (.cells zcells 36 (0, 0)))
  rw [hd] at d2
  have HB := Lib.hid (v.at_new w (.cells zcells 36 (0, 0)))
  have HF0 := Lib.hid ((Fresh.refl w).alloc (.cells zcells 36 (0, 0)))
  have HS0 : Hid ((w.alloc (.cells zcells 36 (0, 0))).heap.size = w.heap.size + 1) := World.size_alloc _ _
  have HE0 : Hid (e0 ≤ rl) := by rw [← hrl]; exact h2
  have HA0 := Lib.hid h1
  clear hR hF hd hnn ih
  have HRL := Lib.hid hrl
  obtain ⟨ind, hind⟩ : ∃ ind : Nat, ind = (R[at0]'(by omega)).indent := ⟨_, rfl⟩
  rw [← hind] at d1 ⊢
  generalize (R[at0]'(by omega)).line = ln0 at *
  generalize (R[at0]'(by omega)).text = tx0 at *
  clear hind hrl h2
  go_enter Tryz.func28, Tryz.ntmps28
  go_upto_region 1 with (fail)
  generalize hw0 : w.alloc (.cells zcells 36 (0, 0)) = w0 at *
  generalize hsz : w.heap.size = sz at *
  have HSZ := Lib.hid hsz
  clear hw0 hsz
  go_wp2
  clear d0 d1 d2 d3 q1 q2
  have HL0 : Hid (RListAt w (w0.alloc (.cells (lcells none 0 0) 36 (0, 0))) R ind ins at0 e0 sz [] at0 none 0) := by
    refine ⟨(v.at_alloc HB.out), ?_, World.ownsRow_nil _ _ _ _, (fun x hx => by cases hx), HF0.out.alloc _, rfl, Nat.zero_le _, Nat.le_of_lt HA0.out⟩
    have := v.at_new w0 (.cells (lcells none 0 0) 36 (0, 0))
    rw [HS0.out] at this
    exact this
  rw [HS0.out]
  generalize w0.alloc (.cells (lcells none 0 0) 36 (0, 0)) = w1 at *
  clear HB HF0 HS0
  go_loopw [18] (fun a18 wr => ∃ (at1 : Nat) (xs : List v.M) (la : Option Addr) (lc : Nat), a18 = .int .i64 (at1 : Int) ∧ at0 ≤ at1 ∧ Hid (RListAt w wr R ind ins at0 e0 sz xs at1 la lc)) (fun a18 _ => e0 - (intOf a18).toNat)
  case atStart => exact ⟨at0, [], none, 0, rfl, Nat.le_refl _, HL0.out⟩
  case round =>
    obtain ⟨at1, xs, la, lc, rfl, hge, HL⟩ := hrel
    clear HL0
    have HRO := Lib.hid (HL.out.rb)
    by_cases hlt : at1 < e0
    · have hlr : at1 < rl := by have := HE0.out; omega
      have hlR : at1 < R.length := by rw [HRL.out]; exact hlr
      obtain ⟨d0, d1, d2, d3⟩ := HROW.out at1 hlR wr HL.out.fr
      have HCC := Lib.hid (cutP_cons (R := R) hlt (by rw [HRL.out]; exact HE0.out))
      have qb : (0 : Int) ≤ (at1 : Int) ∧ (at1 : Int) < (rl : Int) := ⟨by omega, by omega⟩
      have hla : (at1 : Int) < (e0 : Int) := by omega
      have hw1 : IntKind.i64.wrap ((at1 : Int) + 1) = (at1 : Int) + 1 := IntWalk.i64_in _ (by have := HN.out; omega)
      by_cases hbad : (R[at1]'hlR).indent ≠ ind ∨ (R[at1]'hlR).dash = false
      · have HI : Hid (items ind ins (cutP R at0 e0) [] = .error (at1, 6)) := by
          rw [Hid, HL.out.eq, HCC.out, items_bad]
          rcases hbad with h | h
          · exact .inl h
          · by_cases h' : (R[at1]'hlR).indent = ind
            · exact .inr ⟨h', by rw [h]; decide⟩
            · exact .inl h'
        have HC : Hid (∀ u0 u1 u2 u3 u4 u5 : Value, RBIs w (items ind ins (cutP R at0 e0) []) (.returned (.tuple #[.agg #[.int .i64 0, .bool false, .int .i64 0, .string ⟨#[]⟩, .slice none 0 0, .slice none 0 0], .int .i64 (at1 : Int), .int .i64 6])) ((((((wr.setCell ⟨sz, 0, none⟩ u0).setCell ⟨sz, 1, none⟩ u1).setCell ⟨sz, 2, none⟩ u2).setCell ⟨sz, 3, none⟩ u3).setCell ⟨sz, 4, none⟩ u4).setCell ⟨sz, 5, none⟩ u5)) := by
          rw [HI.out]; exact close_err HSZ.out HL.out.fr
        obtain ⟨c0, c1, c2, c3, c4, c5, f, lt⟩ := HRO.out.facts
        have f0 := f 0; have f1 := f 1; have f2 := f 2; have f3 := f 3; have f4 := f 4; have f5 := f 5
        clear f HI HCC
        by_cases hie : (R[at1]'hlR).indent = ind
        · have hda : (R[at1]'hlR).dash = false := by rcases hbad with h | h; exact absurd hie h; exact h
          rw [hie] at d1
          rw [hda] at d2
          clear hbad hie hda
          go_wp2
          refine bodyPost_ret (v := .tuple #[.agg #[.int .i64 0, .bool false, .int .i64 0, .string ⟨#[]⟩, .slice none 0 0, .slice none 0 0], .int .i64 (at1 : Int), .int .i64 6]) (by simp [results, Tryz.results28, go_sem, *]) rfl ?_
          exact HC.out _ _ _ _ _ _
        · have gi : (((R[at1]'hlR).indent : Int) != (ind : Int)) = true := by simp; omega
          generalize (R[at1]'hlR).indent = ri at *
          clear hbad hie
          go_wp2
          refine bodyPost_ret (v := .tuple #[.agg #[.int .i64 0, .bool false, .int .i64 0, .string ⟨#[]⟩, .slice none 0 0, .slice none 0 0], .int .i64 (at1 : Int), .int .i64 6]) (by simp [results, Tryz.results28, go_sem, *]) rfl ?_
          exact HC.out _ _ _ _ _ _
      · have hie : (R[at1]'hlR).indent = ind := by by_cases h : (R[at1]'hlR).indent = ind; exact h; exact absurd (.inl h) hbad
        have hda : (R[at1]'hlR).dash = true := by cases h : (R[at1]'hlR).dash with | true => rfl | false => exact absurd (.inr h) hbad
        rw [hie] at d1
        rw [hda] at d2
        clear hbad
        obtain ⟨X, hX⟩ : ∃ X : Nat, X = at1 + 1 + (seg (ind : Int) (R.drop (at1 + 1))).length := ⟨_, rfl⟩
        obtain ⟨nx, hnx⟩ : ∃ nx : Nat, nx = nextP R (ind : Int) (at1 + 1) e0 := ⟨_, rfl⟩
        have hnX : nx = min X e0 := by rw [hnx, nextP, hX]
        have HNB : Hid (at1 + 1 ≤ nx ∧ nx ≤ e0) := by
          have := nextP_le R (ind : Int) (a := at1 + 1) (e := e0) (by omega)
          rw [hnx]; exact this
        have HEN : Hid (Calls Tryz.prog 60 #[.slice (some ⟨g, 0, none⟩) rl c, .int .i64 ((at1 : Int) + 1), .int .i64 (ind : Int)] wr fun e w' => e = .returned (.int .i64 (X : Int)) ∧ wr = w') := by
          have := HEND.out (at1 + 1) (ind : Int) wr (by omega) HL.out.fr
          rw [show ((at1 + 1 : Nat) : Int) = (at1 : Int) + 1 by omega, ← hX] at this
          exact this
        have HBL : Hid (Calls Tryz.prog 28 #[.slice (some ⟨g, 0, none⟩) rl c, .int .i64 ((at1 : Int) + 1), .int .i64 (nx : Int), .int .i64 ((ins : Int) + 1)] wr (RBP wr (blk (cutP R (at1 + 1) nx) (ins + 1)))) := by
          have := HBLK.out (at1 + 1) nx wr HL.out.fr HNB.out.1 HNB.out.2 (by omega)
          rw [show ((at1 + 1 : Nat) : Int) = (at1 : Int) + 1 by omega] at this
          exact this
        have HSTEP : Hid (∀ x, blk (cutP R (at1 + 1) nx) (ins + 1) = .error x → items ind ins (cutP R at0 e0) [] = .error x) := fun x hx => by
          obtain ⟨s1, s2⟩ := cutP_seg R (ind : Int) (a := at1 + 1) (e := e0) (by omega) (by rw [HRL.out]; exact HE0.out)
          have st := items_step (ins := ins) (r := ⟨at1, (R[at1]'hlR).indent, (R[at1]'hlR).dash, (R[at1]'hlR).text⟩) (T := cutP R (at1 + 1) e0) (acc := xs.map v.M.plain) hie hda
          rw [HL.out.eq, HCC.out, st, s1, ← hnx, hx]
        have HMORE : Hid (∀ (W3 W4 : World) (m : v.M) (y : v.V) (g2 cap : Nat), m.plain = y → blk (cutP R (at1 + 1) nx) (ins + 1) = .ok y → m.New wr.heap.size W3 → Fresh wr W3 →
            W4.ownsRow (sz + 2) 36 6 (.slice (some ⟨g2, 0, none⟩) (xs.length + 1) cap) (xs.length + 1) (v.mcells xs ++ m.cells) → W3.grownBy W4 (Value.slice la xs.length lc).ownBlock → ((Value.slice la xs.length lc).ownBlock = some g2 ∨ g2 = W3.heap.size) →
            RListAt w (W4.setCell ⟨sz + 1, 4, none⟩ (.slice (some ⟨g2, 0, none⟩) (xs.length + 1) cap)) R ind ins at0 e0 sz (xs ++ [m]) nx (some ⟨g2, 0, none⟩) cap) :=
          fun W3 W4 m y g2 cap k1 k2 k3 k4 k5 k6 k7 => HL.out.more HSZ.out hlt (by rw [HRL.out]; exact HE0.out) hie hda hnx k1 k2 k3 k4 k5 k6 k7
        have HTOLD : Hid (∀ p x, blk (cutP R (at1 + 1) nx) (ins + 1) = .error (p, x) → x ≠ 0) := fun p x hx => (blk_told hx).1
        have HNX := Lib.hid hnX
        clear hnx hX hie hda HCC hnX
        generalize (R[at1]'hlR).line = rln at *
        generalize (R[at1]'hlR).text = rtx at *
        generalize blk (cutP R (at1 + 1) nx) (ins + 1) = BK at *
        have HXL : Hid (xs.length + 1 ≤ 1000000) := by have := HL.out.len; have := HN.out; rw [Hid]; omega
        have HSB : Hid (sz + 1 < wr.heap.size) := v.lt_of_at HL.out.vb
        generalize hxn : xs.length = xn at *
        go_wp2_with fail
        refine HEN.out.mono ?_
        rintro e w2 ⟨rfl, rfl⟩
        clear HEN
        go_upto_if 127 with (fail)
        go_cut [18, 19] (fun a18 a19 wc => a18 = .int .i64 (at1 : Int) ∧ a19 = .int .i64 (nx : Int) ∧ wc = wr)
        case first =>
          by_cases hx : e0 < X
          · have gx : (e0 : Int) < (X : Int) := by omega
            obtain rfl : nx = e0 := by have := HNX.out; omega
            clear HNX
            go_wp2
            go_meet
            case rel => exact ⟨rfl, rfl, rfl⟩
          · have gx : ¬ (e0 : Int) < (X : Int) := by omega
            obtain rfl : nx = X := by have := HNX.out; omega
            clear HNX
            go_wp2
            go_meet
            case rel => exact ⟨rfl, rfl, rfl⟩
        case rest =>
          obtain ⟨rfl, rfl, rfl⟩ := hcut
          have HBW := Lib.hid hxn
          clear d0 d1 d2 d3 hxn
          go_wp2_with fail
          refine HBL.out.mono ?_
          rintro e w2 (⟨p, cc, hx, rfl, hf⟩ | ⟨y, mk, mf, mn, ms, mla, mlc, ml, mka, mkc, mks, rfl, ⟨hx, hp, hn⟩, hf⟩)
          · have gcc : (cc != 0) = true := by simpa using HTOLD.out p cc hx
            have HI := Lib.hid (HSTEP.out _ hx)
            have HC : Hid (∀ u0 u1 u2 u3 u4 u5 : Value, RBIs w (items ind ins (cutP R at0 e0) []) (.returned (.tuple #[.agg #[.int .i64 0, .bool false, .int .i64 0, .string ⟨#[]⟩, .slice none 0 0, .slice none 0 0], .int .i64 (p : Int), .int .i64 cc])) (((((((w2.alloc (.cells zcells 36 (0, 0))).setCell ⟨sz, 0, none⟩ u0).setCell ⟨sz, 1, none⟩ u1).setCell ⟨sz, 2, none⟩ u2).setCell ⟨sz, 3, none⟩ u3).setCell ⟨sz, 4, none⟩ u4).setCell ⟨sz, 5, none⟩ u5)) := by
              rw [HI.out]; exact close_err HSZ.out ((HL.out.fr.trans hf).alloc _)
            have HB3 : Hid (RBox (w2.alloc (.cells zcells 36 (0, 0))) sz) := v.at_alloc (v.Fresh.at hf HRO.out)
            clear hx hf HI HMORE HSTEP HBL
            go_upto_region 31 with (fail)
            generalize w2.alloc (.cells zcells 36 (0, 0)) = w3 at *
            obtain ⟨c0, c1, c2, c3, c4, c5, f, lt⟩ := HB3.out.facts
            have f0 := f 0; have f1 := f 1; have f2 := f 2; have f3 := f 3; have f4 := f 4; have f5 := f 5
            clear f
            go_wp2
            refine bodyPost_ret (v := .tuple #[.agg #[.int .i64 0, .bool false, .int .i64 0, .string ⟨#[]⟩, .slice none 0 0, .slice none 0 0], .int .i64 (p : Int), .int .i64 cc]) (by simp [results, Tryz.results28, go_sem, *]) rfl ?_
            exact HC.out _ _ _ _ _ _
          · have HX2 := Lib.hid (v.at_new w2 (.cells #[.int .i64 mk, .bool mf, .int .i64 mn, .string ms, .slice mla ml.length mlc, .slice mka mks.length mkc] 36 (0, 0)))
            have HV2 : Hid ((w2.alloc (.cells #[.int .i64 mk, .bool mf, .int .i64 mn, .string ms, .slice mla ml.length mlc, .slice mka mks.length mkc] 36 (0, 0))).heap[sz + 1]? = some (.cells (lcells la xn lc) 36 (0, 0))) := by
              have := v.at_alloc (p := (.cells #[.int .i64 mk, .bool mf, .int .i64 mn, .string ms, .slice mla ml.length mlc, .slice mka mks.length mkc] 36 (0, 0))) (v.Fresh.at hf HL.out.vb)
              rw [HBW.out] at this
              exact this
            have HFW := Lib.hid (hf.alloc (.cells #[.int .i64 mk, .bool mf, .int .i64 mn, .string ms, .slice mla ml.length mlc, .slice mka mks.length mkc] 36 (0, 0)))
            have HOW : Hid ((w2.alloc (.cells #[.int .i64 mk, .bool mf, .int .i64 mn, .string ms, .slice mla ml.length mlc, .slice mka mks.length mkc] 36 (0, 0))).ownsRow (sz + 2) 36 6 (.slice la xn lc) xn (v.mcells xs)) := by
              have := v.owns_move HL.out.own HFW.out
              rw [HBW.out] at this
              exact this
            have HFS := Lib.hid hf.size
            have HSZ2 : Hid (sz + 2 ≤ (w2.alloc (.cells #[.int .i64 mk, .bool mf, .int .i64 mn, .string ms, .slice mla ml.length mlc, .slice mka mks.length mkc] 36 (0, 0))).heap.size) := by
              have := HSB.out; have := HFW.out.size; rw [Hid]; omega
            have HMR : Hid (∀ (W4 : World) (g2 cap : Nat) (o : Obj), W4.ownsRow (sz + 2) 36 6 (.slice (some ⟨g2, 0, none⟩) (xn + 1) cap) (xn + 1) (v.mcells xs ++ (v.M.mk mk mf mn ms mla mlc ml mka mkc mks).cells) → ((w2.alloc (.cells #[.int .i64 mk, .bool mf, .int .i64 mn, .string ms, .slice mla ml.length mlc, .slice mka mks.length mkc] 36 (0, 0))).alloc o).grownBy W4 (Value.slice la xn lc).ownBlock → ((Value.slice la xn lc).ownBlock = some g2 ∨ g2 = ((w2.alloc (.cells #[.int .i64 mk, .bool mf, .int .i64 mn, .string ms, .slice mla ml.length mlc, .slice mka mks.length mkc] 36 (0, 0))).alloc o).heap.size) →
                RListAt w (W4.setCell ⟨sz + 1, 4, none⟩ (.slice (some ⟨g2, 0, none⟩) (xn + 1) cap)) R ind ins at0 e0 sz (xs ++ [v.M.mk mk mf mn ms mla mlc ml mka mkc mks]) nx (some ⟨g2, 0, none⟩) cap) := fun W4 g2 cap o k5 k6 k7 =>
              HMORE.out _ W4 _ y g2 cap hp hx ((hn.move ((Fresh.refl _).alloc _)).move ((Fresh.refl _).alloc o)) (HFW.out.alloc o) k5 k6 k7
            clear hx hf hp hn HMORE HSTEP HBL
            go_upto_region 31 with (fail)
            have HWX : Hid (Fresh w2 (w2.alloc (.cells #[.int .i64 mk, .bool mf, .int .i64 mn, .string ms, .slice mla ml.length mlc, .slice mka mks.length mkc] 36 (0, 0)))) := (Fresh.refl w2).alloc _
            have HNE : Hid (sz + 1 ≠ w2.heap.size) := by have := HSB.out; have := HFS.out; rw [Hid]; omega
            generalize w2.alloc (.cells #[.int .i64 mk, .bool mf, .int .i64 mn, .string ms, .slice mla ml.length mlc, .slice mka mks.length mkc] 36 (0, 0)) = w3 at *
            generalize w2.heap.size = bx at *
            obtain ⟨x0, x1, x2, x3, x4, x5, _, _⟩ := six_facts HX2.out
            obtain ⟨y0, y1, y2, y3, y4, y5, _, _⟩ := six_facts HV2.out
            have HN6 := Lib.hid (World.news_of_block (at_new w3 (.cells #[.int .i64 mk, .bool mf, .int .i64 mn, .string ms, .slice mla ml.length mlc, .slice mka mks.length mkc] 36)))
            go_wp2_with (at_builtin; refine Hid.out ?_)
            refine Lib.hid ?_
            refine wpList_append_lies _ rfl _ _ 33 rfl (sz + 2) 36 i0 _ 6 88 Tryz.underlying33 hii hz0 hz1 hz2 hzc (by decide) (.slice la xn lc) xn (v.mcells xs) rfl (World.ownsRow.alloc HOW.out _) ⟨w3.heap.size, 0, none⟩ 1 1 [.int .i64 mk, .bool mf, .int .i64 mn, .string ms, .slice mla ml.length mlc, .slice mka mks.length mkc] rfl rfl HN6.out (fun u hu => by
              simp only [List.mem_cons, List.not_mem_nil, or_false] at hu
              rcases hu with rfl | rfl | rfl | rfl | rfl | rfl <;> rfl) (by decide) (by have := HXL.out; unfold maxLen; omega) (by have := HXL.out; omega) (by rw [World.size_alloc]; have := HSZ2.out; omega) _ rfl ?_
            intro g2 cap w4 hown hgrow hat hlt4
            have HL2 := Lib.hid (HMR.out w4 g2 cap _ hown hgrow hat)
            have hlo : ∀ k, (Value.slice la xn lc).ownBlock = some k → sz + 2 ≤ k ∧ k < w3.heap.size := fun k e => World.ownsRow.lt HOW.out k e
            have hv4 := ((Wr.refl (fun k => sz + 2 ≤ k) _).grown hgrow (fun k e => .inl (hlo k e).1)).at (by omega) (v.at_alloc HV2.out)
            obtain ⟨_, _, _, _, _, _, fz, _⟩ := six_facts hv4
            have fz4 := fz 4
            clear hown hgrow hat hlt4 HN6 HMR HOW hlo hv4 fz HX2 HV2 x0 x1 x2 x3 x4 x5 y0 y1 y2 y3 y4 y5
            go_wp2
            go_roundw
            case rel => exact ⟨nx, xs ++ [v.M.mk mk mf mn ms mla mlc ml mka mkc mks], _, _, rfl, by have := HNB.out; omega, HL2.out⟩
            case measure => have := HNB.out; simp [intOf]; omega
    · obtain rfl : at1 = e0 := by have := HL.out.le; omega
      have hla : ¬ (at1 : Int) < (at1 : Int) := by omega
      have HD : Hid (∀ u0 u1 u2 u3 u4 u5 : Value, RBIs w (items ind ins (cutP R at0 at1) []) (.returned (.tuple #[.agg #[.int .i64 4, .bool false, .int .i64 0, .string ⟨#[]⟩, .slice la xs.length lc, .slice none 0 0], .int .i64 0, .int .i64 0])) ((((((wr.setCell ⟨sz, 0, none⟩ u0).setCell ⟨sz, 1, none⟩ u1).setCell ⟨sz, 2, none⟩ u2).setCell ⟨sz, 3, none⟩ u3).setCell ⟨sz, 4, none⟩ u4).setCell ⟨sz, 5, none⟩ u5)) :=
        HL.out.done HSZ.out (by have := HE0.out; have := HN.out; omega)
      obtain ⟨x0, x1, x2, x3, x4, x5, _, _⟩ := six_facts HL.out.vb
      obtain ⟨c0, c1, c2, c3, c4, c5, f, lt⟩ := HRO.out.facts
      have f0 := f 0; have f1 := f 1; have f2 := f 2; have f3 := f 3; have f4 := f 4; have f5 := f 5
      clear f
      go_wp2
      refine bodyPost_ret (v := .tuple #[.agg #[.int .i64 4, .bool false, .int .i64 0, .string ⟨#[]⟩, .slice la xs.length lc, .slice none 0 0], .int .i64 0, .int .i64 0]) (by simp [results, Tryz.results28, go_sem, *]) rfl ?_
      exact HD.out _ _ _ _ _ _
end y
end Go.Proofs.YtcljplkkgpjhlaaGreatDoorR
