/-
  Parts of the proof: YWord YScal YScal2 YScalar YAlone YRScal2 YRUnq2.
-/
import Derived.Test.YtcljplkkgpjhlaaGreatDoorRCat15
import Derived.Test.YtcljplkkgpjhlaaGreatDoorRCat18
import Derived.Test.YtcljplkkgpjhlaaGreatDoorRCat14
import Derived.Test.YtcljplkkgpjhlaaGreatDoorRCat12
import Derived.Test.YtcljplkkgpjhlaaGreatDoorRCat13
set_option maxRecDepth 100000
set_option maxHeartbeats 8000000
namespace Go.Proofs.YtcljplkkgpjhlaaGreatDoorR
namespace y
open Go.ChangeShapes Go.WideShapes Go.ChangeAt Go.RowKit
attribute [local go_sem ↓] Go.wp_at_zero Go.wp_at_succ
variable {w : World}
def flatM (x : v.V) : v.M := .mk x.kind x.flag x.num x.text none 0 [] none 0 []
def ScIs (w : World) (line : Nat) (x : Int × v.V) (e : Ending) (w' : World) : Prop :=
  (x.1 ≠ 0 → Panics line x.1 e) ∧ (x.1 = 0 → e = .returned (flatM x.2).val) ∧ Fresh w w'
theorem ScIs.bad {w : World} {line : Nat} {x : Int × v.V} {e : Ending} {w' : World} (hx : x.1 ≠ 0) (h : Panics line x.1 e) (f : Fresh w w') : ScIs w line x e w' := ⟨fun _ => h, fun k => absurd k hx, f⟩
theorem ScIs.ok {w : World} {line : Nat} {x : Int × v.V} {e : Ending} {w' : World} (hx : x.1 = 0) (h : e = .returned (flatM x.2).val) (f : Fresh w w') : ScIs w line x e w' := ⟨fun k => absurd hx k, fun _ => h, f⟩
theorem quoM_bad (q : List UInt8) (h : (unqF (34 :: q)).2.2 ≠ 0) : quoM (34 :: q) = ((unqF (34 :: q)).2.2, zV) := by rw [quoM, if_pos h]
theorem quoM_ok (q : List UInt8) (h : (unqF (34 :: q)).2.2 = 0) (hd : (34 :: q).drop (unqF (34 :: q)).2.1 = []) : quoM (34 :: q) = (0, vText (unqF (34 :: q)).1) := by
  have h1 := List.drop_eq_nil_iff.1 hd
  have h2 := unq_le q
  rw [quoM, if_neg (by simp [h]), if_pos (by omega)]
theorem quoM_more (q : List UInt8) (h : (unqF (34 :: q)).2.2 = 0) (hd : (34 :: q).drop (unqF (34 :: q)).2.1 ≠ []) : quoM (34 :: q) = (6, zV) := by
  rw [quoM, if_neg (by simp [h]), if_neg (fun e => hd (by rw [e, List.drop_length]))]
theorem quotedText_any (b : Nat) (R : List Rw) (line : Nat) (q : List UInt8) (w : World) (h : Rdr w b R line) (hE : Env w) (hq : q.length ≤ 90000) :
    Calls Tryz.prog 140 #[.pointer (some ⟨b, 0, none⟩), .string (tx (34 :: q))] w (ScIs w line (quoM (34 :: q))) := by
  have HU : Hid (∀ W : World, Fresh w W → Calls Tryz.prog 138 #[.pointer (some ⟨b, 0, none⟩), .string (tx (34 :: q))] W (UnqIs W line q)) := fun W f => unquoted_any b R line q W (h.move f) (hE.move f) hq
  have HR := Lib.hid h
  have HB := Lib.hid (VBox.new w)
  have HF0 := Lib.hid ((Fresh.refl w).alloc (.cells zcells 27 (0, 0)))
  unfold UnqIs at HU
  by_cases hc : (unqF (34 :: q)).2.2 = 0
  · have HU1 : Hid (∀ W : World, Fresh w W → Calls Tryz.prog 138 #[.pointer (some ⟨b, 0, none⟩), .string (tx (34 :: q))] W fun e w' => e = .returned (.tuple #[.string (tx (unqF (34 :: q)).1), .string (tx ((34 :: q).drop (unqF (34 :: q)).2.1))]) ∧ Fresh W w') :=
      fun W f => (HU.out W f).mono fun e w' k => by rw [if_neg (by simp [hc])] at k; exact k
    have H1 := Lib.hid (quoM_ok q hc)
    have H2 := Lib.hid (quoM_more q hc)
    clear HU h hE hq hc
    generalize (34 :: q).drop (unqF (34 :: q)).2.1 = d at *
    generalize quoM (34 :: q) = x at *
    generalize (unqF (34 :: q)).1 = t at *
    generalize tx (34 :: q) = s at *
    cases d with
    | nil =>
      obtain rfl := H1.out rfl
      have e1 : (tx []).toList.isEmpty = true := by rw [tx_list]; rfl
      refine Calls.mono (R := fun e w' => e = .returned (flatM (vText t)).val ∧ Fresh w w') ?_ (fun e w' k => .ok rfl k.1 k.2)
      have HO : Hid (∀ W : World, Calls Tryz.prog 42 #[.string (tx t)] W fun e w' => e = .returned (.agg #[.int .i64 3, .bool false, .int .i64 0, .string (tx t), .slice none 0 0, .slice none 0 0]) ∧ Fresh W w') := fun W => v.of_any (tx t) W
      have HV : Hid ((flatM (vText t)).val = .agg #[.int .i64 3, .bool false, .int .i64 0, .string (tx t), .slice none 0 0, .slice none 0 0]) := rfl
      rw [HV.out]
      clear H1 H2 HR HV
      generalize tx [] = sd at *
      generalize tx t = st at *
      go_enter Tryz.func140, Tryz.ntmps140
      go_wp2_with fail
      generalize w.alloc (.cells zcells 27 (0, 0)) = w0 at *
      generalize hsz : w.heap.size = sz at *
      have HSZ := Lib.hid hsz
      clear hsz
      refine (HU1.out _ HF0.out).mono ?_
      rintro e w1 ⟨rfl, hf⟩
      have HF1 := Lib.hid hf
      clear hf
      go_wp2_with fail
      refine (HO.out _).mono ?_
      rintro e w2 ⟨rfl, hf⟩
      obtain ⟨c0, c1, c2, c3, c4, c5, f, lt⟩ := ((HB.out.move HF1.out).move hf).facts
      have HF2 := Lib.hid (HF1.out.trans hf)
      have f0 := f 0; have f1 := f 1; have f2 := f 2; have f3 := f 3; have f4 := f 4; have f5 := f 5
      clear hf f
      go_wp2
      refine bodyPost_ret (v := .agg #[.int .i64 3, .bool false, .int .i64 0, .string st, .slice none 0 0, .slice none 0 0]) (by simp [results, Tryz.results140, go_sem, *]) rfl ⟨rfl, ?_⟩
      exact Wr.toFresh (p := fun k => w.heap.size ≤ k) (((Wr.of_fresh HF0.out).fresh HF2.out).set6 (.inl (Nat.le_of_eq HSZ.out)) _ _ _ _ _ _) (fun k hk h => by omega)
    | cons c r =>
      obtain rfl := H2.out (by simp)
      have e1 : (tx (c :: r)).toList.isEmpty = false := by rw [tx_list]; rfl
      refine Calls.mono (R := fun e w' => Panics line 6 e ∧ Fresh w w') ?_ (fun e w' k => .bad (by decide) k.1 k.2)
      have HW : Hid (∀ W : World, Fresh w W → Calls Tryz.prog 54 #[.pointer (some ⟨b, 0, none⟩), .int .i64 6] W fun e w' => e = .returned (misV line 6) ∧ Fresh W w') := fun W f => wrong_any b R line 6 W (HR.out.move f)
      clear H1 H2 HR
      generalize tx (c :: r) = sd at *
      generalize tx t = st at *
      go_enter Tryz.func140, Tryz.ntmps140
      go_wp2_with fail
      refine (HU1.out _ HF0.out).mono ?_
      rintro e w1 ⟨rfl, hf⟩
      have HF1 := Lib.hid (HF0.out.trans hf)
      clear hf
      go_wp2_with (go_at_call 54; refine (HW.out _ HF1.out).mono ?_; rintro e w2 ⟨rfl, hf⟩; have HF2 := Lib.hid hf; clear hf)
      exact ⟨rfl, rfl, HF1.out.trans HF2.out⟩
  · have HU1 : Hid (∀ W : World, Fresh w W → Calls Tryz.prog 138 #[.pointer (some ⟨b, 0, none⟩), .string (tx (34 :: q))] W fun e w' => Panics line (unqF (34 :: q)).2.2 e ∧ Fresh W w') :=
      fun W f => (HU.out W f).mono fun e w' k => by rw [if_pos hc] at k; exact k
    have HX := Lib.hid (quoM_bad q hc)
    rw [HX.out]
    refine Calls.mono (R := fun e w' => Panics line (unqF (34 :: q)).2.2 e ∧ Fresh w w') ?_ (fun e w' k => .bad hc k.1 k.2)
    clear HU HX h hE hq hc HR
    generalize (unqF (34 :: q)).2.2 = x at *
    generalize tx (34 :: q) = s at *
    go_enter Tryz.func140, Tryz.ntmps140
    go_wp2_with fail
    refine (HU1.out _ HF0.out).mono ?_
    rintro e w1 ⟨hp, hf⟩
    have HF1 := Lib.hid (HF0.out.trans hf)
    clear hf
    unfold Panics at hp
    subst hp
    go_wp2
    exact ⟨rfl, rfl, HF1.out⟩
theorem set6_fresh {W w0 w2 : World} {g : Nat} (h : Fresh W w0) (f : Fresh w0 w2) (hg : W.heap.size = g) (u0 u1 u2 u3 u4 u5 : Value) :
    Fresh W ((((((w2.setCell ⟨g, 0, none⟩ u0).setCell ⟨g, 1, none⟩ u1).setCell ⟨g, 2, none⟩ u2).setCell ⟨g, 3, none⟩ u3).setCell ⟨g, 4, none⟩ u4).setCell ⟨g, 5, none⟩ u5) :=
  Wr.toFresh (p := fun k => W.heap.size ≤ k) (((Wr.of_fresh h).fresh f).set6 (.inl (Nat.le_of_eq hg)) _ _ _ _ _ _) (fun k hk h => by omega)
theorem start_cons (c : UInt8) (r : List UInt8) : startB ((c :: r).headD 0) = (decide (c.toNat = 45) || digB c) := by
  show startB c = _
  unfold startB digB
  rw [Bool.eq_iff_iff]; simp
theorem word_any (b : Nat) (R : List Rw) (line : Nat) (c : UInt8) (r : List UInt8) (w : World) (h : Rdr w b R line) (hE : Env w) (hl : (c :: r).length ≤ 90000) :
    Calls Tryz.prog 141 #[.pointer (some ⟨b, 0, none⟩), .string (tx (c :: r))] w (ScIs w line (wordM (c :: r))) := by
  have HW : Hid (∀ (x : Int) (W : World), Fresh w W → Calls Tryz.prog 54 #[.pointer (some ⟨b, 0, none⟩), .int .i64 x] W fun e w' => e = .returned (misV line x) ∧ Fresh W w') := fun x W f => wrong_any b R line x W (h.move f)
  have HB := Lib.hid (VBox.new w)
  have HF0 := Lib.hid ((Fresh.refl w).alloc (.cells zcells 27 (0, 0)))
  have HD := Lib.hid (fun W => isDigit_any c W)
  obtain ⟨p1, p2, p3, p4⟩ : Cons (tx (c :: r)) c (tx r) := bs_cons c r
  have hsz : (tx (c :: r)).size = (c :: r).length := tx_size _
  have HS := Lib.hid (start_cons c r)
  clear p3 p4
  cases hst : startB ((c :: r).headD 0) with
  | true =>
    have HJ : Hid (∀ W : World, Fresh w W → Calls Tryz.prog 98 #[.string (tx (c :: r))] W fun e w' => e = .returned (.tuple #[.int .i64 (wholeV (c :: r)), .int .i64 (wholeE (c :: r))]) ∧ Fresh W w') := fun W f => by
      have := whole_any (tx (c :: r)) W (by rw [hsz]; omega) (hE.rng.move f)
      rw [tx_toList] at this
      exact this
    have HV : Hid (∀ W : World, Calls Tryz.prog 23 #[.int .i64 (wholeV (c :: r))] W fun e w' => e = .returned (.agg #[.int .i64 2, .bool false, .int .i64 (wholeV (c :: r)), .string ⟨#[]⟩, .slice none 0 0, .slice none 0 0]) ∧ Fresh W w') := fun W => v.whole_any (wholeV (c :: r)) W
    have HM : Hid (wordM (c :: r) = if wholeE (c :: r) ≠ 0 then (wholeE (c :: r), zV) else (0, vInt (wholeV (c :: r)))) := by rw [Hid, wordM, if_pos hst]
    have HQ : Hid ((decide (c.toNat = 45) || digB c) = true) := by rw [Hid, ← HS.out]; exact hst
    rw [HM.out]
    clear HM HS hst h hE hl hsz
    generalize wholeV (c :: r) = wv at *
    generalize wholeE (c :: r) = we at *
    generalize tx (c :: r) = s at *
    by_cases hwe : we = 0
    · refine Calls.mono (R := fun e w' => e = .returned (.agg #[.int .i64 2, .bool false, .int .i64 wv, .string ⟨#[]⟩, .slice none 0 0, .slice none 0 0]) ∧ Fresh w w') ?_ (fun e w' k => by rw [if_neg (by simp [hwe])]; exact .ok rfl k.1 k.2)
      subst hwe
      by_cases h45 : c.toNat = 45
      · have g1 : ((c.toNat : Int) == 45) = true := by simp; omega
        clear h45 HQ HD
        go_enter Tryz.func141, Tryz.ntmps141
        go_wp2_with fail
        generalize w.alloc (.cells zcells 27 (0, 0)) = w0 at *
        generalize hsz : w.heap.size = sz at *
        have HSZ := Lib.hid hsz
        clear hsz
        refine (HJ.out _ HF0.out).mono ?_
        rintro e w1 ⟨rfl, hf⟩
        have HF1 := Lib.hid hf
        clear hf
        go_wp2_with fail
        refine (HV.out _).mono ?_
        rintro e w2 ⟨rfl, hf⟩
        obtain ⟨c0, c1, c2, c3, c4, c5, f, lt⟩ := ((HB.out.move HF1.out).move hf).facts
        have HF2 := Lib.hid (HF1.out.trans hf)
        have f0 := f 0; have f1 := f 1; have f2 := f 2; have f3 := f 3; have f4 := f 4; have f5 := f 5
        clear hf f
        go_wp2
        refine bodyPost_ret (v := .agg #[.int .i64 2, .bool false, .int .i64 wv, .string ⟨#[]⟩, .slice none 0 0, .slice none 0 0]) (by simp [results, Tryz.results141, go_sem, *]) rfl ⟨rfl, ?_⟩
        exact set6_fresh HF0.out HF2.out HSZ.out _ _ _ _ _ _
      · have g1 : ((c.toNat : Int) == 45) = false := by simp; omega
        have hd : digB c = true := by have h1 := HQ.out; rw [decide_eq_false h45, Bool.false_or] at h1; exact h1
        rw [hd] at HD
        clear h45 HQ hd
        go_enter Tryz.func141, Tryz.ntmps141
        go_wp2_with (go_at_call 64; refine (HD.out _).mono ?_; rintro e w' ⟨rfl, rfl⟩)
        generalize w.alloc (.cells zcells 27 (0, 0)) = w0 at *
        generalize hsz : w.heap.size = sz at *
        have HSZ := Lib.hid hsz
        clear hsz
        refine (HJ.out _ HF0.out).mono ?_
        rintro e w1 ⟨rfl, hf⟩
        have HF1 := Lib.hid hf
        clear hf
        go_wp2_with fail
        refine (HV.out _).mono ?_
        rintro e w2 ⟨rfl, hf⟩
        obtain ⟨c0, c1, c2, c3, c4, c5, f, lt⟩ := ((HB.out.move HF1.out).move hf).facts
        have HF2 := Lib.hid (HF1.out.trans hf)
        have f0 := f 0; have f1 := f 1; have f2 := f 2; have f3 := f 3; have f4 := f 4; have f5 := f 5
        clear hf f
        go_wp2
        refine bodyPost_ret (v := .agg #[.int .i64 2, .bool false, .int .i64 wv, .string ⟨#[]⟩, .slice none 0 0, .slice none 0 0]) (by simp [results, Tryz.results141, go_sem, *]) rfl ⟨rfl, ?_⟩
        exact set6_fresh HF0.out HF2.out HSZ.out _ _ _ _ _ _
    · refine Calls.mono (R := fun e w' => Panics line we e ∧ Fresh w w') ?_ (fun e w' k => by rw [if_pos hwe]; exact .bad hwe k.1 k.2)
      have hx1 : (we == 0) = false := by simpa using hwe
      have hx2 : (we != 0) = true := by simpa using hwe
      clear hwe HB
      by_cases h45 : c.toNat = 45
      · have g1 : ((c.toNat : Int) == 45) = true := by simp; omega
        clear h45 HQ HD
        go_enter Tryz.func141, Tryz.ntmps141
        go_wp2_with fail
        refine (HJ.out _ HF0.out).mono ?_
        rintro e w1 ⟨rfl, hf⟩
        have HF1 := Lib.hid (HF0.out.trans hf)
        clear hf
        go_wp2_with (go_at_call 54; refine (HW.out _ _ HF1.out).mono ?_; rintro e w2 ⟨rfl, hf⟩; have HF2 := Lib.hid hf; clear hf)
        exact ⟨rfl, rfl, HF1.out.trans HF2.out⟩
      · have g1 : ((c.toNat : Int) == 45) = false := by simp; omega
        have hd : digB c = true := by have h1 := HQ.out; rw [decide_eq_false h45, Bool.false_or] at h1; exact h1
        rw [hd] at HD
        clear h45 HQ hd
        go_enter Tryz.func141, Tryz.ntmps141
        go_wp2_with (go_at_call 64; refine (HD.out _).mono ?_; rintro e w' ⟨rfl, rfl⟩)
        refine (HJ.out _ HF0.out).mono ?_
        rintro e w1 ⟨rfl, hf⟩
        have HF1 := Lib.hid (HF0.out.trans hf)
        clear hf
        go_wp2_with (go_at_call 54; refine (HW.out _ _ HF1.out).mono ?_; rintro e w2 ⟨rfl, hf⟩; have HF2 := Lib.hid hf; clear hf)
        exact ⟨rfl, rfl, HF1.out.trans HF2.out⟩
  | false =>
    have HM : Hid (wordM (c :: r) = if 4096 < (c :: r).length then (2, zV) else (0, vText (c :: r))) := by rw [Hid, wordM, if_neg (by rw [hst]; exact Bool.false_ne_true)]
    have HQ : Hid (c.toNat ≠ 45 ∧ digB c = false) := by
      have h1 : (decide (c.toNat = 45) || digB c) = false := HS.out.symm.trans hst
      rw [Bool.or_eq_false_iff] at h1
      exact ⟨of_decide_eq_false h1.1, h1.2⟩
    rw [HM.out]
    have g1 : ((c.toNat : Int) == 45) = false := by have := HQ.out.1; simp; omega
    rw [HQ.out.2] at HD
    clear HM HS hst h hE HQ
    by_cases hlong : 4096 < (c :: r).length
    · have g2 : 4096 < (tx (c :: r)).size := by rw [hsz]; exact hlong
      have g3 : (tx (c :: r)).size ≤ 90000 := by rw [hsz]; exact hl
      refine Calls.mono (R := fun e w' => Panics line 2 e ∧ Fresh w w') ?_ (fun e w' k => by rw [if_pos hlong]; exact .bad (by decide) k.1 k.2)
      clear hlong hsz hl HB
      generalize tx (c :: r) = s at *
      go_enter Tryz.func141, Tryz.ntmps141
      go_wp2_with (first | (go_at_call 64; refine (HD.out _).mono ?_; rintro e w' ⟨rfl, rfl⟩) | (go_at_call 54; refine (HW.out _ _ HF0.out).mono ?_; rintro e w2 ⟨rfl, hf⟩; have HF2 := Lib.hid hf; clear hf))
      exact ⟨rfl, rfl, HF0.out.trans HF2.out⟩
    · have g2 : ¬ 4096 < (tx (c :: r)).size := by rw [hsz]; exact hlong
      have g3 : (tx (c :: r)).size ≤ 4096 := by omega
      have HO : Hid (∀ W : World, Calls Tryz.prog 42 #[.string (tx (c :: r))] W fun e w' => e = .returned (.agg #[.int .i64 3, .bool false, .int .i64 0, .string (tx (c :: r)), .slice none 0 0, .slice none 0 0]) ∧ Fresh W w') := fun W => v.of_any (tx (c :: r)) W
      refine Calls.mono (R := fun e w' => e = .returned (.agg #[.int .i64 3, .bool false, .int .i64 0, .string (tx (c :: r)), .slice none 0 0, .slice none 0 0]) ∧ Fresh w w') ?_ (fun e w' k => by rw [if_neg hlong]; exact .ok rfl k.1 k.2)
      clear hlong hsz hl HW g2
      generalize tx (c :: r) = s at *
      go_enter Tryz.func141, Tryz.ntmps141
      go_wp2_with (go_at_call 64; refine (HD.out _).mono ?_; rintro e w' ⟨rfl, rfl⟩)
      generalize w.alloc (.cells zcells 27 (0, 0)) = w0 at *
      generalize hsz : w.heap.size = sz at *
      have HSZ := Lib.hid hsz
      clear hsz
      refine (HO.out _).mono ?_
      rintro e w2 ⟨rfl, hf⟩
      obtain ⟨c0, c1, c2, c3, c4, c5, f, lt⟩ := (HB.out.move hf).facts
      have HF2 := Lib.hid hf
      have f0 := f 0; have f1 := f 1; have f2 := f 2; have f3 := f 3; have f4 := f 4; have f5 := f 5
      clear hf f
      go_wp2
      refine bodyPost_ret (v := .agg #[.int .i64 3, .bool false, .int .i64 0, .string s, .slice none 0 0, .slice none 0 0]) (by simp [results, Tryz.results141, go_sem, *]) rfl ⟨rfl, ?_⟩
      exact set6_fresh HF0.out HF2.out HSZ.out _ _ _ _ _ _
def Named (s : ByteArray) (k : Int) (f : Bool) (o : Bool) : Prop := ∀ W : World, Calls Tryz.prog 32 #[.string s] W fun e w' => e = .returned (.tuple #[.agg #[.int .i64 k, .bool f, .int .i64 0, .string ⟨#[]⟩, .slice none 0 0, .slice none 0 0], .bool o]) ∧ Fresh W w'
theorem named_of (l : List UInt8) : Named (tx l) (nameM l).kind (decide (l = tTrue)) (namedB l) := fun W => by
  have h := byName_any l W
  have e : (nameM l).val = .agg #[.int .i64 (nameM l).kind, .bool (decide (l = tTrue)), .int .i64 0, .string ⟨#[]⟩, .slice none 0 0, .slice none 0 0] := by
    unfold nameM
    by_cases h1 : l = tTrue
    · subst h1; rfl
    · rw [if_neg h1, decide_eq_false h1]
      split <;> rfl
  rw [e] at h
  exact h
theorem scal_named (b ins : Nat) (s : ByteArray) (k : Int) (g : Bool) (w : World) (hn : Named s k g true) :
    Calls Tryz.prog 117 #[.pointer (some ⟨b, 0, none⟩), .string s, .int .i64 (ins : Int)] w fun e w' => e = .returned (.agg #[.int .i64 k, .bool g, .int .i64 0, .string ⟨#[]⟩, .slice none 0 0, .slice none 0 0]) ∧ Fresh w w' := by
  have HN := Lib.hid hn
  have HB := Lib.hid (VBox.new w)
  have HF0 := Lib.hid ((Fresh.refl w).alloc (.cells zcells 27 (0, 0)))
  clear hn
  go_enter Tryz.func117, Tryz.ntmps117
  go_wp2_with fail
  generalize w.alloc (.cells zcells 27 (0, 0)) = w0 at *
  generalize hsz : w.heap.size = sz at *
  have HSZ := Lib.hid hsz
  clear hsz
  refine (HN.out _).mono ?_
  rintro e w1 ⟨rfl, hf⟩
  have HF1 := Lib.hid hf
  obtain ⟨c0, c1, c2, c3, c4, c5, f, lt⟩ := (HB.out.move hf).facts
  have f0 := f 0; have f1 := f 1; have f2 := f 2; have f3 := f 3; have f4 := f 4; have f5 := f 5
  clear hf f
  go_wp2
  refine bodyPost_ret (v := .agg #[.int .i64 k, .bool g, .int .i64 0, .string ⟨#[]⟩, .slice none 0 0, .slice none 0 0]) (by simp [results, Tryz.results117, go_sem, *]) rfl ⟨rfl, ?_⟩
  exact (set6_fresh HF0.out HF1.out HSZ.out _ _ _ _ _ _).alloc _
theorem scal_list (b ins : Nat) (s : ByteArray) (k : Int) (g : Bool) (w : World) (hn : Named s k g false) (e1 : (s.toList == [91, 93]) = true) (hi : ins < 32) :
    Calls Tryz.prog 117 #[.pointer (some ⟨b, 0, none⟩), .string s, .int .i64 (ins : Int)] w fun e w' => e = .returned (.agg #[.int .i64 4, .bool false, .int .i64 0, .string ⟨#[]⟩, .slice none 0 0, .slice none 0 0]) ∧ Fresh w w' := by
  have HN := Lib.hid hn
  have HB := Lib.hid (VBox.new w)
  have HF0 := Lib.hid ((Fresh.refl w).alloc (.cells zcells 27 (0, 0)))
  have HM := Lib.hid (fun W => mayHold_ok b ins W hi)
  have HV : Hid (∀ W : World, Calls Tryz.prog 22 #[.slice none 0 0] W fun e w' => e = .returned (.agg #[.int .i64 4, .bool false, .int .i64 0, .string ⟨#[]⟩, .slice none 0 0, .slice none 0 0]) ∧ Fresh W w') := fun W => v.row_nil W
  clear hn hi
  go_enter Tryz.func117, Tryz.ntmps117
  go_wp2_with fail
  generalize w.alloc (.cells zcells 27 (0, 0)) = w0 at *
  generalize hsz : w.heap.size = sz at *
  have HSZ := Lib.hid hsz
  clear hsz
  refine (HN.out _).mono ?_
  rintro e w1 ⟨rfl, hf⟩
  have HF1 := Lib.hid hf
  clear hf
  go_wp2_with (go_at_call 112; refine (HM.out _).mono ?_; rintro e w2 ⟨rfl, rfl⟩)
  go_wp2_with fail
  refine (HV.out _).mono ?_
  rintro e w2 ⟨rfl, hf⟩
  have HF2 := Lib.hid ((HF1.out.alloc _).trans hf)
  obtain ⟨c0, c1, c2, c3, c4, c5, f, lt⟩ := (HB.out.move HF2.out).facts
  have f0 := f 0; have f1 := f 1; have f2 := f 2; have f3 := f 3; have f4 := f 4; have f5 := f 5
  clear hf f
  go_wp2
  refine bodyPost_ret (v := .agg #[.int .i64 4, .bool false, .int .i64 0, .string ⟨#[]⟩, .slice none 0 0, .slice none 0 0]) (by simp [results, Tryz.results117, go_sem, *]) rfl ⟨rfl, ?_⟩
  exact set6_fresh HF0.out HF2.out HSZ.out _ _ _ _ _ _
theorem scal_list_deep (b ins : Nat) (R : List Rw) (line : Nat) (s : ByteArray) (k : Int) (g : Bool) (w : World) (h : Rdr w b R line) (hn : Named s k g false) (e1 : (s.toList == [91, 93]) = true) (hi : 32 ≤ ins) :
    Calls Tryz.prog 117 #[.pointer (some ⟨b, 0, none⟩), .string s, .int .i64 (ins : Int)] w fun e w' => Panics line 9 e ∧ Fresh w w' := by
  have HN := Lib.hid hn
  have HB := Lib.hid (VBox.new w)
  have HF0 := Lib.hid ((Fresh.refl w).alloc (.cells zcells 27 (0, 0)))
  have HM : Hid (∀ W : World, Fresh w W → Calls Tryz.prog 112 #[.pointer (some ⟨b, 0, none⟩), .int .i64 (ins : Int)] W fun e w' => Panics line 9 e ∧ Fresh W w') := fun W f => mayHold_no b R line ins W (h.move f) hi
  clear hn hi h
  go_enter Tryz.func117, Tryz.ntmps117
  go_wp2_with fail
  generalize w.alloc (.cells zcells 27 (0, 0)) = w0 at *
  generalize hsz : w.heap.size = sz at *
  have HSZ := Lib.hid hsz
  clear hsz
  refine (HN.out _).mono ?_
  rintro e w1 ⟨rfl, hf⟩
  have HF1 := Lib.hid hf
  have HF2 := Lib.hid ((HF0.out.trans hf).alloc (.cells #[.int .i64 k, .bool g, .int .i64 0, .string ⟨#[]⟩, .slice none 0 0, .slice none 0 0] 27))
  clear hf
  go_wp2_with fail
  refine (HM.out _ HF2.out).mono ?_
  rintro e w2 ⟨hp, hf⟩
  have HF3 := Lib.hid (HF2.out.trans hf)
  clear hf
  unfold Panics at hp
  subst hp
  go_wp2
  exact ⟨rfl, rfl, HF3.out⟩
theorem scal_keys (b ins : Nat) (s : ByteArray) (k : Int) (g : Bool) (w : World) (hn : Named s k g false) (e1 : (s.toList == [91, 93]) = false) (e2 : (s.toList == [123, 125]) = true) (hi : ins < 32) :
    Calls Tryz.prog 117 #[.pointer (some ⟨b, 0, none⟩), .string s, .int .i64 (ins : Int)] w fun e w' => e = .returned (.agg #[.int .i64 5, .bool false, .int .i64 0, .string ⟨#[]⟩, .slice none 0 0, .slice none 0 0]) ∧ Fresh w w' := by
  have HN := Lib.hid hn
  have HB := Lib.hid (VBox.new w)
  have HF0 := Lib.hid ((Fresh.refl w).alloc (.cells zcells 27 (0, 0)))
  have HM := Lib.hid (fun W => mayHold_ok b ins W hi)
  have HV : Hid (∀ W : World, Calls Tryz.prog 21 #[.slice none 0 0] W fun e w' => e = .returned (.agg #[.int .i64 5, .bool false, .int .i64 0, .string ⟨#[]⟩, .slice none 0 0, .slice none 0 0]) ∧ Fresh W w') := fun W => v.map_nil W
  clear hn hi
  go_enter Tryz.func117, Tryz.ntmps117
  go_wp2_with fail
  generalize w.alloc (.cells zcells 27 (0, 0)) = w0 at *
  generalize hsz : w.heap.size = sz at *
  have HSZ := Lib.hid hsz
  clear hsz
  refine (HN.out _).mono ?_
  rintro e w1 ⟨rfl, hf⟩
  have HF1 := Lib.hid hf
  clear hf
  go_wp2_with (go_at_call 112; refine (HM.out _).mono ?_; rintro e w2 ⟨rfl, rfl⟩)
  go_wp2_with fail
  refine (HV.out _).mono ?_
  rintro e w2 ⟨rfl, hf⟩
  have HF2 := Lib.hid ((HF1.out.alloc _).trans hf)
  obtain ⟨c0, c1, c2, c3, c4, c5, f, lt⟩ := (HB.out.move HF2.out).facts
  have f0 := f 0; have f1 := f 1; have f2 := f 2; have f3 := f 3; have f4 := f 4; have f5 := f 5
  clear hf f
  go_wp2
  refine bodyPost_ret (v := .agg #[.int .i64 5, .bool false, .int .i64 0, .string ⟨#[]⟩, .slice none 0 0, .slice none 0 0]) (by simp [results, Tryz.results117, go_sem, *]) rfl ⟨rfl, ?_⟩
  exact set6_fresh HF0.out HF2.out HSZ.out _ _ _ _ _ _
theorem scal_keys_deep (b ins : Nat) (R : List Rw) (line : Nat) (s : ByteArray) (k : Int) (g : Bool) (w : World) (h : Rdr w b R line) (hn : Named s k g false) (e1 : (s.toList == [91, 93]) = false) (e2 : (s.toList == [123, 125]) = true) (hi : 32 ≤ ins) :
    Calls Tryz.prog 117 #[.pointer (some ⟨b, 0, none⟩), .string s, .int .i64 (ins : Int)] w fun e w' => Panics line 9 e ∧ Fresh w w' := by
  have HN := Lib.hid hn
  have HB := Lib.hid (VBox.new w)
  have HF0 := Lib.hid ((Fresh.refl w).alloc (.cells zcells 27 (0, 0)))
  have HM : Hid (∀ W : World, Fresh w W → Calls Tryz.prog 112 #[.pointer (some ⟨b, 0, none⟩), .int .i64 (ins : Int)] W fun e w' => Panics line 9 e ∧ Fresh W w') := fun W f => mayHold_no b R line ins W (h.move f) hi
  clear hn hi h
  go_enter Tryz.func117, Tryz.ntmps117
  go_wp2_with fail
  generalize w.alloc (.cells zcells 27 (0, 0)) = w0 at *
  generalize hsz : w.heap.size = sz at *
  have HSZ := Lib.hid hsz
  clear hsz
  refine (HN.out _).mono ?_
  rintro e w1 ⟨rfl, hf⟩
  have HF1 := Lib.hid hf
  have HF2 := Lib.hid ((HF0.out.trans hf).alloc (.cells #[.int .i64 k, .bool g, .int .i64 0, .string ⟨#[]⟩, .slice none 0 0, .slice none 0 0] 27))
  clear hf
  go_wp2_with fail
  refine (HM.out _ HF2.out).mono ?_
  rintro e w2 ⟨hp, hf⟩
  have HF3 := Lib.hid (HF2.out.trans hf)
  clear hf
  unfold Panics at hp
  subst hp
  go_wp2
  exact ⟨rfl, rfl, HF3.out⟩
theorem scal_quoted_ok (b ins : Nat) (s : ByteArray) (c : UInt8) (k : Int) (g : Bool) (w : World) (hn : Named s k g false) (e1 : (s.toList == [91, 93]) = false) (e2 : (s.toList == [123, 125]) = false) (p1 : 0 < s.size) (p2 : s[0] = c) (g1 : ((c.toNat : Int) == 34) = true)
    (x : v.V) (hq : ∀ W : World, Fresh w W → Calls Tryz.prog 140 #[.pointer (some ⟨b, 0, none⟩), .string s] W fun e w' => e = .returned (flatM x).val ∧ Fresh W w') :
    Calls Tryz.prog 117 #[.pointer (some ⟨b, 0, none⟩), .string s, .int .i64 (ins : Int)] w fun e w' => e = .returned (flatM x).val ∧ Fresh w w' := by
  have HN := Lib.hid hn
  have HB := Lib.hid (VBox.new w)
  have HF0 := Lib.hid ((Fresh.refl w).alloc (.cells zcells 27 (0, 0)))
  have HQ := Lib.hid hq
  clear hn hq
  go_enter Tryz.func117, Tryz.ntmps117
  go_wp2_with fail
  generalize w.alloc (.cells zcells 27 (0, 0)) = w0 at *
  generalize hsz : w.heap.size = sz at *
  have HSZ := Lib.hid hsz
  clear hsz
  refine (HN.out _).mono ?_
  rintro e w1 ⟨rfl, hf⟩
  have HF1 := Lib.hid hf
  have HF2 := Lib.hid ((HF0.out.trans hf).alloc (.cells #[.int .i64 k, .bool g, .int .i64 0, .string ⟨#[]⟩, .slice none 0 0, .slice none 0 0] 27))
  clear hf
  go_wp2_with fail
  refine (HQ.out _ HF2.out).mono ?_
  rintro e w2 ⟨rfl, hf⟩
  have HF3 := Lib.hid ((HF1.out.alloc _).trans hf)
  obtain ⟨c0, c1, c2, c3, c4, c5, f, lt⟩ := (HB.out.move HF3.out).facts
  have f0 := f 0; have f1 := f 1; have f2 := f 2; have f3 := f 3; have f4 := f 4; have f5 := f 5
  obtain ⟨xk, xf, xn, xs, xl, xm⟩ := x
  unfold flatM v.M.val
  dsimp only [v.V.kind, v.V.flag, v.V.num, v.V.text, List.length_nil]
  clear hf f HQ
  go_wp2
  refine bodyPost_ret (v := .agg #[.int .i64 xk, .bool xf, .int .i64 xn, .string xs, .slice none 0 0, .slice none 0 0]) (by simp [results, Tryz.results117, go_sem, *]) rfl ⟨rfl, ?_⟩
  exact set6_fresh HF0.out HF3.out HSZ.out _ _ _ _ _ _
theorem scal_quoted_bad (b ins : Nat) (s : ByteArray) (c : UInt8) (k : Int) (g : Bool) (w : World) (hn : Named s k g false) (e1 : (s.toList == [91, 93]) = false) (e2 : (s.toList == [123, 125]) = false) (p1 : 0 < s.size) (p2 : s[0] = c) (g1 : ((c.toNat : Int) == 34) = true)
    (line : Nat) (x : Int) (hq : ∀ W : World, Fresh w W → Calls Tryz.prog 140 #[.pointer (some ⟨b, 0, none⟩), .string s] W fun e w' => Panics line x e ∧ Fresh W w') :
    Calls Tryz.prog 117 #[.pointer (some ⟨b, 0, none⟩), .string s, .int .i64 (ins : Int)] w fun e w' => Panics line x e ∧ Fresh w w' := by
  have HN := Lib.hid hn
  have HB := Lib.hid (VBox.new w)
  have HF0 := Lib.hid ((Fresh.refl w).alloc (.cells zcells 27 (0, 0)))
  have HQ := Lib.hid hq
  clear hn hq
  go_enter Tryz.func117, Tryz.ntmps117
  go_wp2_with fail
  generalize w.alloc (.cells zcells 27 (0, 0)) = w0 at *
  generalize hsz : w.heap.size = sz at *
  have HSZ := Lib.hid hsz
  clear hsz
  refine (HN.out _).mono ?_
  rintro e w1 ⟨rfl, hf⟩
  have HF1 := Lib.hid hf
  have HF2 := Lib.hid ((HF0.out.trans hf).alloc (.cells #[.int .i64 k, .bool g, .int .i64 0, .string ⟨#[]⟩, .slice none 0 0, .slice none 0 0] 27))
  clear hf
  go_wp2_with fail
  refine (HQ.out _ HF2.out).mono ?_
  rintro e w2 ⟨hp, hf⟩
  have HF3 := Lib.hid (HF2.out.trans hf)
  clear hf
  unfold Panics at hp
  subst hp
  go_wp2
  exact ⟨rfl, rfl, HF3.out⟩
theorem scal_word_ok (b ins : Nat) (s : ByteArray) (c : UInt8) (k : Int) (g : Bool) (w : World) (hn : Named s k g false) (e1 : (s.toList == [91, 93]) = false) (e2 : (s.toList == [123, 125]) = false) (p1 : 0 < s.size) (p2 : s[0] = c) (g1 : ((c.toNat : Int) == 34) = false) (ho : ∀ W : World, Calls Tryz.prog 33 #[.string s, .string ⟨#[46, 95, 47, 58, 64, 43, 45]⟩] W fun e w' => e = .returned (.bool true) ∧ W = w')
    (x : v.V) (hq : ∀ W : World, Fresh w W → Calls Tryz.prog 141 #[.pointer (some ⟨b, 0, none⟩), .string s] W fun e w' => e = .returned (flatM x).val ∧ Fresh W w') :
    Calls Tryz.prog 117 #[.pointer (some ⟨b, 0, none⟩), .string s, .int .i64 (ins : Int)] w fun e w' => e = .returned (flatM x).val ∧ Fresh w w' := by
  have HN := Lib.hid hn
  have HB := Lib.hid (VBox.new w)
  have HF0 := Lib.hid ((Fresh.refl w).alloc (.cells zcells 27 (0, 0)))
  have HO := Lib.hid ho
  clear ho
  have HQ := Lib.hid hq
  clear hn hq
  go_enter Tryz.func117, Tryz.ntmps117
  go_wp2_with fail
  generalize w.alloc (.cells zcells 27 (0, 0)) = w0 at *
  generalize hsz : w.heap.size = sz at *
  have HSZ := Lib.hid hsz
  clear hsz
  refine (HN.out _).mono ?_
  rintro e w1 ⟨rfl, hf⟩
  have HF1 := Lib.hid hf
  have HF2 := Lib.hid ((HF0.out.trans hf).alloc (.cells #[.int .i64 k, .bool g, .int .i64 0, .string ⟨#[]⟩, .slice none 0 0, .slice none 0 0] 27))
  clear hf
  go_wp2_with (go_at_call 33; refine (HO.out _).mono ?_; rintro e w2 ⟨rfl, rfl⟩)
  go_wp2_with fail
  refine (HQ.out _ HF2.out).mono ?_
  rintro e w2 ⟨rfl, hf⟩
  have HF3 := Lib.hid ((HF1.out.alloc _).trans hf)
  obtain ⟨c0, c1, c2, c3, c4, c5, f, lt⟩ := (HB.out.move HF3.out).facts
  have f0 := f 0; have f1 := f 1; have f2 := f 2; have f3 := f 3; have f4 := f 4; have f5 := f 5
  obtain ⟨xk, xf, xn, xs, xl, xm⟩ := x
  unfold flatM v.M.val
  dsimp only [v.V.kind, v.V.flag, v.V.num, v.V.text, List.length_nil]
  clear hf f HQ
  go_wp2
  refine bodyPost_ret (v := .agg #[.int .i64 xk, .bool xf, .int .i64 xn, .string xs, .slice none 0 0, .slice none 0 0]) (by simp [results, Tryz.results117, go_sem, *]) rfl ⟨rfl, ?_⟩
  exact set6_fresh HF0.out HF3.out HSZ.out _ _ _ _ _ _
theorem scal_word_bad (b ins : Nat) (s : ByteArray) (c : UInt8) (k : Int) (g : Bool) (w : World) (hn : Named s k g false) (e1 : (s.toList == [91, 93]) = false) (e2 : (s.toList == [123, 125]) = false) (p1 : 0 < s.size) (p2 : s[0] = c) (g1 : ((c.toNat : Int) == 34) = false) (ho : ∀ W : World, Calls Tryz.prog 33 #[.string s, .string ⟨#[46, 95, 47, 58, 64, 43, 45]⟩] W fun e w' => e = .returned (.bool true) ∧ W = w')
    (line : Nat) (x : Int) (hq : ∀ W : World, Fresh w W → Calls Tryz.prog 141 #[.pointer (some ⟨b, 0, none⟩), .string s] W fun e w' => Panics line x e ∧ Fresh W w') :
    Calls Tryz.prog 117 #[.pointer (some ⟨b, 0, none⟩), .string s, .int .i64 (ins : Int)] w fun e w' => Panics line x e ∧ Fresh w w' := by
  have HN := Lib.hid hn
  have HB := Lib.hid (VBox.new w)
  have HF0 := Lib.hid ((Fresh.refl w).alloc (.cells zcells 27 (0, 0)))
  have HO := Lib.hid ho
  clear ho
  have HQ := Lib.hid hq
  clear hn hq
  go_enter Tryz.func117, Tryz.ntmps117
  go_wp2_with fail
  generalize w.alloc (.cells zcells 27 (0, 0)) = w0 at *
  generalize hsz : w.heap.size = sz at *
  have HSZ := Lib.hid hsz
  clear hsz
  refine (HN.out _).mono ?_
  rintro e w1 ⟨rfl, hf⟩
  have HF1 := Lib.hid hf
  have HF2 := Lib.hid ((HF0.out.trans hf).alloc (.cells #[.int .i64 k, .bool g, .int .i64 0, .string ⟨#[]⟩, .slice none 0 0, .slice none 0 0] 27))
  clear hf
  go_wp2_with (go_at_call 33; refine (HO.out _).mono ?_; rintro e w2 ⟨rfl, rfl⟩)
  go_wp2_with fail
  refine (HQ.out _ HF2.out).mono ?_
  rintro e w2 ⟨hp, hf⟩
  have HF3 := Lib.hid (HF2.out.trans hf)
  clear hf
  unfold Panics at hp
  subst hp
  go_wp2
  exact ⟨rfl, rfl, HF3.out⟩
theorem scal_none (b ins : Nat) (R : List Rw) (line : Nat) (s : ByteArray) (c : UInt8) (k : Int) (g : Bool) (w : World) (h : Rdr w b R line) (hn : Named s k g false) (e1 : (s.toList == [91, 93]) = false) (e2 : (s.toList == [123, 125]) = false) (p1 : 0 < s.size) (p2 : s[0] = c) (g1 : ((c.toNat : Int) == 34) = false)
    (ho : ∀ W : World, Calls Tryz.prog 33 #[.string s, .string ⟨#[46, 95, 47, 58, 64, 43, 45]⟩] W fun e w' => e = .returned (.bool false) ∧ W = w') :
    Calls Tryz.prog 117 #[.pointer (some ⟨b, 0, none⟩), .string s, .int .i64 (ins : Int)] w fun e w' => Panics line 6 e ∧ Fresh w w' := by
  have HN := Lib.hid hn
  have HB := Lib.hid (VBox.new w)
  have HF0 := Lib.hid ((Fresh.refl w).alloc (.cells zcells 27 (0, 0)))
  have HO := Lib.hid ho
  have HW : Hid (∀ W : World, Fresh w W → Calls Tryz.prog 54 #[.pointer (some ⟨b, 0, none⟩), .int .i64 6] W fun e w' => e = .returned (misV line 6) ∧ Fresh W w') := fun W f => wrong_any b R line 6 W (h.move f)
  clear hn ho h
  go_enter Tryz.func117, Tryz.ntmps117
  go_wp2_with fail
  generalize w.alloc (.cells zcells 27 (0, 0)) = w0 at *
  generalize hsz : w.heap.size = sz at *
  have HSZ := Lib.hid hsz
  clear hsz
  refine (HN.out _).mono ?_
  rintro e w1 ⟨rfl, hf⟩
  have HF1 := Lib.hid hf
  have HF2 := Lib.hid ((HF0.out.trans hf).alloc (.cells #[.int .i64 k, .bool g, .int .i64 0, .string ⟨#[]⟩, .slice none 0 0, .slice none 0 0] 27))
  clear hf
  go_wp2_with (first | (go_at_call 33; refine (HO.out _).mono ?_; rintro e w2 ⟨rfl, rfl⟩) | (go_at_call 54; refine (HW.out _ HF2.out).mono ?_; rintro e w3 ⟨rfl, hf⟩; have HF3 := Lib.hid hf; clear hf))
  exact ⟨rfl, rfl, HF2.out.trans HF3.out⟩
end y
namespace y
open Go.ChangeShapes Go.WideShapes Go.ChangeAt Go.RowKit
variable {w : World}
theorem not_named {l : List UInt8} (h : namedB l = false) : l ≠ tNull ∧ l ≠ tTrue ∧ l ≠ tFalse := by
  unfold namedB at h
  simp only [Bool.or_eq_false_iff, decide_eq_false_iff_not] at h
  exact h
theorem scM_rest {l : List UInt8} (h : namedB l = false) (ins : Nat) : scM l ins = if l = [91, 93] then (if 32 ≤ ins then (9, zV) else (0, vList [])) else if l = [123, 125] then (if 32 ≤ ins then (9, zV) else (0, vKeys [])) else if l.head? = some 34 then quoM l else if onlyB inW l = true then wordM l else (6, zV) := by
  obtain ⟨h1, h2, h3⟩ := not_named h
  rw [scM, if_neg h1, if_neg h2, if_neg h3]
theorem scM_named {l : List UInt8} (h : namedB l = true) (ins : Nat) : (scM l ins).1 = 0 ∧ (flatM (scM l ins).2).val = .agg #[.int .i64 (nameM l).kind, .bool (decide (l = tTrue)), .int .i64 0, .string ⟨#[]⟩, .slice none 0 0, .slice none 0 0] := by
  unfold namedB at h
  simp only [Bool.or_eq_true, decide_eq_true_eq] at h
  rcases h with rfl | rfl | rfl
  · exact ⟨rfl, rfl⟩
  · exact ⟨rfl, rfl⟩
  · exact ⟨rfl, rfl⟩
theorem scalar_any (b : Nat) (R : List Rw) (line : Nat) (l : List UInt8) (ins : Nat) (w : World) (h : Rdr w b R line) (hE : Env w) (hne : l ≠ []) (hl : l.length ≤ 90000) :
    Calls Tryz.prog 117 #[.pointer (some ⟨b, 0, none⟩), .string (tx l), .int .i64 (ins : Int)] w (ScIs w line (scM l ins)) := by
  obtain ⟨c, r, rfl⟩ : ∃ c r, l = c :: r := by
    cases l with
    | nil => exact absurd rfl hne
    | cons c r => exact ⟨c, r, rfl⟩
  have hn := named_of (c :: r)
  cases hnm : namedB (c :: r) with
  | true =>
    rw [hnm] at hn
    obtain ⟨h1, h2⟩ := scM_named hnm ins
    exact (scal_named b ins (tx (c :: r)) _ _ w hn).mono fun e w' k => .ok h1 (by rw [h2]; exact k.1) k.2
  | false =>
    rw [hnm] at hn
    have hs := scM_rest hnm ins
    have e1 := tx_eq (c :: r) [91, 93]
    have e2 := tx_eq (c :: r) [123, 125]
    by_cases h1 : c :: r = [91, 93]
    · rw [decide_eq_true h1] at e1
      rw [if_pos h1] at hs
      by_cases hi : 32 ≤ ins
      · rw [if_pos hi] at hs
        rw [hs]
        exact (scal_list_deep b ins R line _ _ _ w h hn e1 hi).mono fun e w' k => .bad (by decide) k.1 k.2
      · rw [if_neg hi] at hs
        rw [hs]
        exact (scal_list b ins _ _ _ w hn e1 (by omega)).mono fun e w' k => .ok rfl k.1 k.2
    rw [decide_eq_false h1] at e1
    rw [if_neg h1] at hs
    by_cases h2 : c :: r = [123, 125]
    · rw [decide_eq_true h2] at e2
      rw [if_pos h2] at hs
      by_cases hi : 32 ≤ ins
      · rw [if_pos hi] at hs
        rw [hs]
        exact (scal_keys_deep b ins R line _ _ _ w h hn e1 e2 hi).mono fun e w' k => .bad (by decide) k.1 k.2
      · rw [if_neg hi] at hs
        rw [hs]
        exact (scal_keys b ins _ _ _ w hn e1 e2 (by omega)).mono fun e w' k => .ok rfl k.1 k.2
    rw [decide_eq_false h2] at e2
    rw [if_neg h2] at hs
    obtain ⟨p1, p2, _, _⟩ : Cons (tx (c :: r)) c (tx r) := bs_cons c r
    by_cases h34 : c.toNat = 34
    · obtain rfl := (is34 c).2 h34
      rw [if_pos (show (34 :: r).head? = some 34 from rfl)] at hs
      rw [hs]
      have g1 : ((34 : UInt8).toNat : Int) == 34 := by decide
      by_cases hx : (quoM (34 :: r)).1 = 0
      · exact (scal_quoted_ok b ins _ 34 _ _ w hn e1 e2 p1 p2 g1 (quoM (34 :: r)).2 (fun W f => (quotedText_any b R line r W (h.move f) (hE.move f) (by simp at hl; omega)).mono fun e w' k => ⟨k.2.1 hx, k.2.2⟩)).mono fun e w' k => .ok hx k.1 k.2
      · exact (scal_quoted_bad b ins _ 34 _ _ w hn e1 e2 p1 p2 g1 line _ (fun W f => (quotedText_any b R line r W (h.move f) (hE.move f) (by simp at hl; omega)).mono fun e w' k => ⟨k.1 hx, k.2.2⟩)).mono fun e w' k => .bad hx k.1 k.2
    · rw [if_neg (by simp only [List.head?_cons, Option.some.injEq]; rw [is34]; exact h34)] at hs
      have g1 : ((c.toNat : Int) == 34) = false := by simp; omega
      have hsz : (tx (c :: r)).size = (c :: r).length := tx_size _
      have ho : ∀ W : World, Calls Tryz.prog 33 #[.string (tx (c :: r)), .string ⟨#[46, 95, 47, 58, 64, 43, 45]⟩] W fun e w' => e = .returned (.bool (onlyB inW (c :: r))) ∧ W = w' := fun W => by
        have := hasOnly_any (tx (c :: r)) inW W (by rw [hsz]; omega)
        rw [tx_toList] at this
        exact this
      cases hon : onlyB inW (c :: r) with
      | true =>
        rw [hon] at ho
        rw [if_pos hon] at hs
        rw [hs]
        by_cases hx : (wordM (c :: r)).1 = 0
        · exact (scal_word_ok b ins _ c _ _ w hn e1 e2 p1 p2 g1 ho (wordM (c :: r)).2 (fun W f => (word_any b R line c r W (h.move f) (hE.move f) hl).mono fun e w' k => ⟨k.2.1 hx, k.2.2⟩)).mono fun e w' k => .ok hx k.1 k.2
        · exact (scal_word_bad b ins _ c _ _ w hn e1 e2 p1 p2 g1 ho line _ (fun W f => (word_any b R line c r W (h.move f) (hE.move f) hl).mono fun e w' k => ⟨k.1 hx, k.2.2⟩)).mono fun e w' k => .bad hx k.1 k.2
      | false =>
        rw [hon] at ho
        rw [if_neg (by rw [hon]; exact Bool.false_ne_true)] at hs
        rw [hs]
        exact (scal_none b ins R line _ c _ _ w h hn e1 e2 p1 p2 g1 ho).mono fun e w' k => .bad (by decide) k.1 k.2
end y
namespace y
open Go.ChangeShapes Go.WideShapes Go.ChangeAt Go.RowKit
attribute [local go_sem ↓] Go.wp_at_zero Go.wp_at_succ
variable {w : World}
theorem new_wr {p : Nat → Prop} {N : Nat} {w w' : World} {m : v.M} (h : m.New N w) (f : Wr p w w') (hp : ∀ k, p k → k < N) : m.New N w' := h.cells fun g j x e => by
  obtain ⟨h1, h2⟩ := v.wo_cell e
  refine v.wo_up h1 (f.cell (fun k => ?_) h2)
  have := hp g k
  simp at h1
  omega
theorem flat_new (x : v.V) (N : Nat) (w : World) (h : x.text.size ≤ 1000000) : (flatM x).New N w :=
  .mk h (.nil _) (.nil _) (by simp) (by simp) (fun _ h => by cases h) (fun _ h => by cases h) (fun _ h => by cases h)
theorem flat_plain (x : v.V) (h : x.list = [] ∧ x.keys = []) : (flatM x).plain = x := by
  obtain ⟨k, f, n, s, l, ks⟩ := x
  obtain ⟨h1, h2⟩ := h
  have h1 : l = [] := h1
  have h2 : ks = [] := h2
  subst h1; subst h2; rfl
theorem unq_len (q : List UInt8) : (unqF (34 :: q)).1.length ≤ 4096 := by
  rw [unqF, if_neg (by simp)]
  split
  · simp
  split
  · simp
  · rename_i h; simp only; omega
theorem scM_flat (l : List UInt8) (ins : Nat) : (scM l ins).2.list = [] ∧ (scM l ins).2.keys = [] := by
  unfold scM quoM wordM
  repeat' split
  all_goals exact ⟨rfl, rfl⟩
theorem scM_size (l : List UInt8) (ins : Nat) (hl : l.length ≤ 90000) : (scM l ins).2.text.size ≤ 90000 := by
  have h1 : ∀ x : List UInt8, (vText x).text.size = x.length := fun x => tx_size x
  have h0 : (⟨#[]⟩ : ByteArray).size ≤ 90000 := by decide
  have hq : l.head? = some 34 → (quoM l).2.text.size ≤ 90000 := fun h => by
    cases l with
    | nil => cases h
    | cons c r =>
      have : c = 34 := by simpa using h
      subst this
      have := unq_len r
      unfold quoM
      split
      · exact h0
      split
      · rw [h1]; omega
      · exact h0
  have hw : (wordM l).2.text.size ≤ 90000 := by
    unfold wordM
    split
    · split <;> exact h0
    split
    · exact h0
    · rw [h1]; exact hl
  unfold scM
  repeat' split
  all_goals first | exact h0 | (apply hq; assumption) | exact hw
def BlkIs (w : World) (b : Nat) (x : Res) (R' : List Rw) (e : Ending) (w' : World) : Prop := match x with
  | .ok y => (∃ (m : v.M) (line' : Nat), e = .returned m.val ∧ m.plain = y ∧ m.New w.heap.size w' ∧ Rdr w' b R' line') ∧ Wr (fun k => k = b) w w'
  | .error er => Panics er.1 er.2 e ∧ Wr (fun k => k = b) w w'
theorem off_none {ind : Int} {R : List Rw} (h : hasB ind R = false) : seg ind R = [] ∧ off ind R = R := by
  cases R with
  | nil => exact ⟨rfl, rfl⟩
  | cons r T =>
    have h' : decide (ind < (r.indent : Int)) = false := h
    unfold seg off
    rw [List.takeWhile_cons, List.dropWhile_cons, h']
    exact ⟨rfl, rfl⟩
theorem seg_cons {ind : Int} {r : Rw} {T : List Rw} (h : hasB ind (r :: T) = true) : seg ind (r :: T) = r :: seg ind T ∧ off ind (r :: T) = off ind T := by
  have h' : decide (ind < (r.indent : Int)) = true := h
  unfold seg off
  rw [List.takeWhile_cons, List.dropWhile_cons, h']
  exact ⟨rfl, rfl⟩
theorem hasB_cons {ind : Int} {R : List Rw} (h : hasB ind R = true) : ∃ r T, R = r :: T := by
  cases R with
  | nil => cases h
  | cons r T => exact ⟨r, T, rfl⟩
abbrev placeO (ar : Int) (ind ins : Nat) (d : Bool) : Obj := .cells #[.int .i64 ar, .int .i64 (ind : Int), .int .i64 (ins : Int), .bool d] 135 (0, 0)
structure Boxes (w w0 : World) (sz : Nat) (ar : Int) (ind ins : Nat) (d : Bool) : Prop where
  eq : w.heap.size = sz
  pl : w0.heap[sz]? = some (placeO ar ind ins d)
  vb : VBox w0 (sz + 1)
  fr : Fresh w w0
theorem boxes_new (w : World) (ar : Int) (ind ins : Nat) (d : Bool) : Boxes w ((w.alloc (placeO ar ind ins d)).alloc (.cells zcells 27 (0, 0))) w.heap.size ar ind ins d :=
  ⟨rfl, v.at_alloc (v.at_new w _), by have := VBox.new (w.alloc (placeO ar ind ins d)); rwa [World.size_alloc] at this, ((Fresh.refl w).alloc _).alloc _⟩
theorem Boxes.move {w w0 w1 : World} {sz : Nat} {ar : Int} {ind ins : Nat} {d : Bool} (h : Boxes w w0 sz ar ind ins d) (f : Fresh w0 w1) : Boxes w w1 sz ar ind ins d :=
  ⟨h.eq, v.Fresh.at f h.pl, h.vb.move f, h.fr.trans f⟩
structure PFacts (w : World) (g : Nat) (ar : Int) (ind ins : Nat) (d : Bool) : Prop where
  p0 : w.cell? ⟨g, 0, none⟩ = some (.int .i64 ar)
  p1 : w.cell? ⟨g, 1, none⟩ = some (.int .i64 (ind : Int))
  p2 : w.cell? ⟨g, 2, none⟩ = some (.int .i64 (ins : Int))
  p3 : w.cell? ⟨g, 3, none⟩ = some (.bool d)
  lt : g < w.heap.size
theorem place_facts {w : World} {g : Nat} {ar : Int} {ind ins : Nat} {d : Bool} (h : w.heap[g]? = some (placeO ar ind ins d)) : PFacts w g ar ind ins d :=
  ⟨cell_of_at h rfl, cell_of_at h rfl, cell_of_at h rfl, cell_of_at h rfl, v.lt_of_at h⟩
theorem alone_ok (b : Nat) (R : List Rw) (line : Nat) (ar : Int) (ind ins : Nat) (d : Bool) (s : ByteArray) (x : v.V) (w : World) (h : Rdr w b R line) (hR : Fine R) (hb : hasB ar R = false)
    (hq : ∀ W : World, Fresh w W → Calls Tryz.prog 117 #[.pointer (some ⟨b, 0, none⟩), .string s, .int .i64 (ins : Int)] W fun e w' => e = .returned (flatM x).val ∧ Fresh W w') :
    Calls Tryz.prog 86 #[.pointer (some ⟨b, 0, none⟩), placeV ar ind ins d, .string s] w fun e w' => e = .returned (flatM x).val ∧ Fresh w w' := by
  have H := Lib.hid h
  have HH : Hid (∀ W : World, Rdr W b R line → Calls Tryz.prog 52 #[.pointer (some ⟨b, 0, none⟩), .int .i64 ar] W fun e w' => e = .returned (.bool false) ∧ W = w') := fun W hW => by
    have := hasBehind_any b R line ar W hW hR
    rw [hb] at this
    exact this
  have HQ := Lib.hid hq
  have HB := Lib.hid (boxes_new w ar ind ins d)
  clear h hR hb hq
  unfold placeV
  go_enter Tryz.func86, Tryz.ntmps86
  go_wp2_with fail
  generalize (w.alloc (placeO ar ind ins d)).alloc (.cells zcells 27 (0, 0)) = w0 at *
  generalize w.heap.size = sz at *
  refine (HQ.out _ HB.out.fr).mono ?_
  rintro e w1 ⟨rfl, hf⟩
  have HF1 := Lib.hid hf
  obtain ⟨p0, p1, p2, p3, pl⟩ := place_facts (HB.out.move hf).pl
  obtain ⟨c0, c1, c2, c3, c4, c5, f, lt⟩ := (HB.out.move hf).vb.facts
  have f0 := f 0; have f1 := f 1; have f2 := f 2; have f3 := f 3; have f4 := f 4; have f5 := f 5
  have HR1 : Hid (Rdr (w1.alloc (.cells #[.int .i64 x.kind, .bool x.flag, .int .i64 x.num, .string x.text, .slice none 0 0, .slice none 0 0] 27)) b R line) := (H.out.move (HB.out.fr.trans hf)).move ((Fresh.refl _).alloc _)
  clear hf f
  have HV : Hid ((flatM x).val = .agg #[.int .i64 x.kind, .bool x.flag, .int .i64 x.num, .string x.text, .slice none 0 0, .slice none 0 0]) := rfl
  rw [HV.out]
  obtain ⟨xk, xf, xn, xs, xl, xm⟩ := x
  dsimp only [v.V.kind, v.V.flag, v.V.num, v.V.text] at HR1 ⊢
  go_wp2_with (go_at_call 52; refine (HH.out _ HR1.out).mono ?_; rintro e w2 ⟨rfl, rfl⟩)
  refine bodyPost_ret (v := .agg #[.int .i64 xk, .bool xf, .int .i64 xn, .string xs, .slice none 0 0, .slice none 0 0]) (by simp [results, Tryz.results86, go_sem, *]) rfl ⟨rfl, ?_⟩
  have he := HB.out.eq
  exact (Wr.toFresh (p := fun k => w.heap.size ≤ k) (((Wr.of_fresh HB.out.fr).fresh HF1.out).set6 (.inl (by omega)) _ _ _ _ _ _) (fun k hk h => by omega)).alloc _
theorem alone_bad (b : Nat) (R : List Rw) (line : Nat) (ar : Int) (ind ins : Nat) (d : Bool) (s : ByteArray) (x : Int) (w : World) (h : Rdr w b R line) (_hR : Fine R)
    (hq : ∀ W : World, Fresh w W → Calls Tryz.prog 117 #[.pointer (some ⟨b, 0, none⟩), .string s, .int .i64 (ins : Int)] W fun e w' => Panics line x e ∧ Fresh W w') :
    Calls Tryz.prog 86 #[.pointer (some ⟨b, 0, none⟩), placeV ar ind ins d, .string s] w fun e w' => Panics line x e ∧ Fresh w w' := by
  have H := Lib.hid h
  have HQ := Lib.hid hq
  have HB := Lib.hid (boxes_new w ar ind ins d)
  clear h hq H
  unfold placeV
  go_enter Tryz.func86, Tryz.ntmps86
  go_wp2_with fail
  generalize (w.alloc (placeO ar ind ins d)).alloc (.cells zcells 27 (0, 0)) = w0 at *
  generalize w.heap.size = sz at *
  refine (HQ.out _ HB.out.fr).mono ?_
  rintro e w1 ⟨hp, hf⟩
  have HF1 := Lib.hid (HB.out.fr.trans hf)
  clear hf
  unfold Panics at hp
  subst hp
  go_wp2
  exact ⟨rfl, rfl, HF1.out⟩
theorem alone_more (b : Nat) (r : Rw) (T : List Rw) (line : Nat) (ar : Int) (ind ins : Nat) (d : Bool) (s : ByteArray) (x : v.V) (w : World) (h : Rdr w b (r :: T) line) (hR : Fine (r :: T)) (hb : hasB ar (r :: T) = true)
    (hq : ∀ W : World, Fresh w W → Calls Tryz.prog 117 #[.pointer (some ⟨b, 0, none⟩), .string s, .int .i64 (ins : Int)] W fun e w' => e = .returned (flatM x).val ∧ Fresh W w') :
    Calls Tryz.prog 86 #[.pointer (some ⟨b, 0, none⟩), placeV ar ind ins d, .string s] w fun e w' => Panics r.line 6 e ∧ Wr (fun k => k = b) w w' := by
  have H := Lib.hid h
  have HH : Hid (∀ W : World, Rdr W b (r :: T) line → Calls Tryz.prog 52 #[.pointer (some ⟨b, 0, none⟩), .int .i64 ar] W fun e w' => e = .returned (.bool true) ∧ W = w') := fun W hW => by
    have := hasBehind_any b (r :: T) line ar W hW hR
    rw [hb] at this
    exact this
  have HN : Hid (∀ W : World, Rdr W b (r :: T) line → Calls Tryz.prog 53 #[.pointer (some ⟨b, 0, none⟩)] W fun e w' => e = .returned (rowV r) ∧ Rdr w' b T r.line ∧ Wr (fun k => k = b) W w') := fun W hW => next_any b r T line W hW hR
  have HW : Hid (∀ W : World, Rdr W b T r.line → Calls Tryz.prog 54 #[.pointer (some ⟨b, 0, none⟩), .int .i64 6] W fun e w' => e = .returned (misV r.line 6) ∧ Fresh W w') := fun W hW => wrong_any b T r.line 6 W hW
  have HQ := Lib.hid hq
  have HB := Lib.hid (boxes_new w ar ind ins d)
  clear h hR hb hq
  unfold placeV
  go_enter Tryz.func86, Tryz.ntmps86
  go_wp2_with fail
  generalize (w.alloc (placeO ar ind ins d)).alloc (.cells zcells 27 (0, 0)) = w0 at *
  generalize w.heap.size = sz at *
  refine (HQ.out _ HB.out.fr).mono ?_
  rintro e w1 ⟨rfl, hf⟩
  have HF1 := Lib.hid hf
  obtain ⟨p0, p1, p2, p3, pl⟩ := place_facts (HB.out.move hf).pl
  obtain ⟨c0, c1, c2, c3, c4, c5, f, lt⟩ := (HB.out.move hf).vb.facts
  have f0 := f 0; have f1 := f 1; have f2 := f 2; have f3 := f 3; have f4 := f 4; have f5 := f 5
  have HR1 : Hid (Rdr (w1.alloc (.cells #[.int .i64 x.kind, .bool x.flag, .int .i64 x.num, .string x.text, .slice none 0 0, .slice none 0 0] 27)) b (r :: T) line) := (H.out.move (HB.out.fr.trans hf)).move ((Fresh.refl _).alloc _)
  clear hf f
  have HV : Hid ((flatM x).val = .agg #[.int .i64 x.kind, .bool x.flag, .int .i64 x.num, .string x.text, .slice none 0 0, .slice none 0 0]) := rfl
  rw [HV.out]
  obtain ⟨xk, xf, xn, xs, xl, xm⟩ := x
  dsimp only [v.V.kind, v.V.flag, v.V.num, v.V.text] at HR1 ⊢
  have HF2 : Hid (Fresh w (w1.alloc (.cells #[.int .i64 xk, .bool xf, .int .i64 xn, .string xs, .slice none 0 0, .slice none 0 0] 27))) := (HB.out.fr.trans HF1.out).alloc _
  clear c0 c1 c2 c3 c4 c5 f0 f1 f2 f3 f4 f5
  go_wp2_with (go_at_call 52; refine (HH.out _ HR1.out).mono ?_; rintro e w2 ⟨rfl, rfl⟩)
  refine (HN.out _ HR1.out).mono ?_
  rintro e w3 ⟨rfl, hr3, hg3⟩
  have HR3 := Lib.hid hr3
  have HG3 := Lib.hid hg3
  unfold rowV
  clear hr3 hg3
  go_wp2_with (go_at_call 54; refine (HW.out _ HR3.out).mono ?_; rintro e w4 ⟨rfl, hf⟩; have HF4 := Lib.hid hf; clear hf)
  exact ⟨rfl, rfl, (Wr.up HF2.out HG3.out).fresh HF4.out⟩
end y
namespace y
open Go.ChangeShapes Go.WideShapes Go.ChangeAt Go.RowKit
variable {w : World}
def RScIs (w : World) (x : Int × v.V) (e : Ending) (w' : World) : Prop := e = .returned (.tuple #[(flatM x.2).val, .int .i64 x.1]) ∧ Fresh w w'
theorem names_of (l : List UInt8) : Names (tx l) (decide (l = [91, 93])) (decide (l = [123, 125])) (decide (l = tNull)) (decide (l = tTrue)) (decide (l = tFalse)) := ⟨tx_eq l _, tx_eq l _, tx_eq l _, tx_eq l _, tx_eq l _⟩
theorem rscalar_any (l : List UInt8) (ins : Nat) (w : World) (hl : l.length ≤ 90000) (hne : l ≠ [])
    (hU : ∀ W : World, Calls Tryz.prog 61 #[.string (tx l)] W fun e w' => e = .returned (.tuple #[.string (tx (unqF l).1), .int .i64 ((unqF l).2.1 : Int), .int .i64 (unqF l).2.2]) ∧ Fresh W w') :
    Calls Tryz.prog 59 #[.string (tx l), .int .i64 (ins : Int)] w (RScIs w (scM l ins)) := by
  have hN := names_of l
  unfold scM
  by_cases n1 : l = tNull
  · subst n1
    rw [if_pos rfl]
    exact rscal_null (tx tNull) ins w hN
  rw [if_neg n1]
  by_cases n2 : l = tTrue
  · subst n2
    rw [if_pos rfl]
    exact rscal_true (tx tTrue) ins w hN
  rw [if_neg n2]
  by_cases n3 : l = tFalse
  · subst n3
    rw [if_pos rfl]
    exact rscal_false (tx tFalse) ins w hN
  rw [if_neg n3]
  by_cases n4 : l = [91, 93]
  · subst n4
    rw [if_pos rfl]
    by_cases h : 32 ≤ ins
    · rw [if_pos h]; exact rscal_row_deep (tx [91, 93]) ins w hN (by omega)
    · rw [if_neg h]; exact rscal_row (tx [91, 93]) ins w hN (by omega)
  rw [if_neg n4]
  by_cases n5 : l = [123, 125]
  · subst n5
    rw [if_pos rfl]
    by_cases h : 32 ≤ ins
    · rw [if_pos h]; exact rscal_map_deep (tx [123, 125]) ins w hN (by omega)
    · rw [if_neg h]; exact rscal_map (tx [123, 125]) ins w hN (by omega)
  rw [if_neg n5]
  rw [decide_eq_false n1, decide_eq_false n2, decide_eq_false n3, decide_eq_false n4, decide_eq_false n5] at hN
  have hp : 0 < (tx l).size := by rw [tx_size]; exact List.length_pos_iff.2 hne
  have hs : (tx l).size ≤ 90000 := by rw [tx_size]; exact hl
  have ht := tx_toList l
  obtain ⟨c, r, rfl⟩ : ∃ c r, l = c :: r := by cases l with | nil => exact absurd rfl hne | cons c r => exact ⟨c, r, rfl⟩
  have h0 : (tx (c :: r))[0] = c := (bs_cons c r).get
  by_cases hq : c = 34
  · subst hq
    rw [if_pos (show (34 :: r).head? = some 34 from rfl)]
    unfold quoM
    by_cases hx : (unqF (34 :: r)).2.2 = 0
    · rw [if_neg (by simpa using hx)]
      by_cases hn : (unqF (34 :: r)).2.1 = (34 :: r).length
      · rw [if_pos hn]
        exact rscal_q _ ins w hN hp h0 _ hU hx (by rw [tx_size]; exact hn)
      · rw [if_neg hn]
        exact rscal_q_more _ ins w hN hp h0 _ hU hx (by rw [tx_size]; exact hn)
    · rw [if_pos hx]
      exact rscal_q_bad _ ins w hN hp h0 _ hU hx
  rw [if_neg (by simpa using hq)]
  have h34 : (tx (c :: r))[0] ≠ 34 := by rw [h0]; exact hq
  have ho : onlyB inW (tx (c :: r)).data.toList = onlyB inW (c :: r) := by rw [ht]
  have hwv : wholeV (tx (c :: r)).data.toList = wholeV (c :: r) := by rw [ht]
  have hwe : wholeE (tx (c :: r)).data.toList = wholeE (c :: r) := by rw [ht]
  by_cases hof : onlyB inW (c :: r) = true
  · rw [if_pos hof]
    rw [hof] at ho
    unfold wordM
    have hh : (c :: r).headD 0 = c := rfl
    rw [hh]
    by_cases hst : startB c = true
    · rw [if_pos hst]
      have hst' := of_decide_eq_true hst
      by_cases hx : wholeE (c :: r) = 0
      · rw [if_neg (by simpa using hx)]
        have key : (c.toNat = 45 ∨ (48 ≤ c.toNat ∧ c.toNat ≤ 57)) := hst'
        rcases key with k | k
        · have q := rscal_num_minus _ ins w hN hs hp h34 ho (by rw [h0]; exact k) (by rw [hwe]; exact hx)
          rw [hwv] at q; exact q
        · have q := rscal_num_dig _ ins w hN hs hp h34 ho (by rw [h0]; exact k) (by rw [hwe]; exact hx)
          rw [hwv] at q; exact q
      · rw [if_pos hx]
        have key : (c.toNat = 45 ∨ (48 ≤ c.toNat ∧ c.toNat ≤ 57)) := hst'
        rcases key with k | k
        · have q := rscal_num_bad_minus _ ins w hN hs hp h34 ho (by rw [h0]; exact k) (by rw [hwe]; exact hx)
          rw [hwe] at q; exact q
        · have q := rscal_num_bad_dig _ ins w hN hs hp h34 ho (by rw [h0]; exact k) (by rw [hwe]; exact hx)
          rw [hwe] at q; exact q
    · rw [if_neg hst]
      have key : (c.toNat ≠ 45 ∧ c.toNat < 48) ∨ 57 < c.toNat := by
        have : ¬ (c.toNat = 45 ∨ (48 ≤ c.toNat ∧ c.toNat ≤ 57)) := fun k => hst (decide_eq_true k)
        omega
      by_cases h4 : 4096 < (c :: r).length
      · rw [if_pos h4]
        rcases key with k | k
        · exact rscal_long_lo _ ins w hN hs hp h34 ho (by rw [h0]; exact k) (by rw [tx_size]; exact h4)
        · exact rscal_long_hi _ ins w hN hs hp h34 ho (by rw [h0]; exact k) (by rw [tx_size]; exact h4)
      · rw [if_neg h4]
        rcases key with k | k
        · exact rscal_word_lo _ ins w hN hs hp h34 ho (by rw [h0]; exact k) (by rw [tx_size]; exact h4)
        · exact rscal_word_hi _ ins w hN hs hp h34 ho (by rw [h0]; exact k) (by rw [tx_size]; exact h4)
  · rw [if_neg hof]
    exact rscal_form _ ins w hN hs hp h34 (by rw [ho]; simpa using hof)
theorem unqF_out (r : List UInt8) : unqF (34 :: r) = outF (34 :: r).length (loopF (r.length + 1) r []) := by
  rw [unqF, if_neg (by simp)]
  rfl
theorem runq_any (l : List UInt8) (w : World) (hl : l.length ≤ 90000) : Calls Tryz.prog 61 #[.string (tx l)] w fun e w' => e = .returned (.tuple #[.string (tx (unqF l).1), .int .i64 ((unqF l).2.1 : Int), .int .i64 (unqF l).2.2]) ∧ Fresh w w' := by
  cases l with
  | nil => exact runq_nil w
  | cons c r =>
    have h0 : (tx (c :: r))[0]'(by rw [tx_size]; simp) = c := (bs_cons c r).get
    by_cases hq : c = 34
    · subst hq
      exact runq_mark (tx (34 :: r)) r w (by rw [tx_size]; exact hl) (tx_toList _) _ (by rw [tx_size]; exact unqF_out r)
    · have e : unqF (c :: r) = ([], 0, 6) := by rw [unqF, if_pos hq]
      rw [e]
      exact runq_not (tx (c :: r)) w (by rw [tx_size]; simp) (by rw [h0]; exact hq)
theorem rscal_any (l : List UInt8) (ins : Nat) (w : World) (hl : l.length ≤ 90000) (hne : l ≠ []) : Calls Tryz.prog 59 #[.string (tx l), .int .i64 (ins : Int)] w (RScIs w (scM l ins)) :=
  rscalar_any l ins w hl hne fun W => runq_any l W hl
theorem rsplits_any (l : List UInt8) (w : World) (hl : l.length ≤ 90000) (hne : l ≠ []) : Calls Tryz.prog 58 #[.string (tx l)] w fun e w' => e = .returned (.tuple #[.int .i64 (splitM l).1, .int .i64 (splitM l).2]) ∧ Fresh w w' :=
  rsplit_any l w hl hne fun W => runq_any l W hl
end y
end Go.Proofs.YtcljplkkgpjhlaaGreatDoorR
