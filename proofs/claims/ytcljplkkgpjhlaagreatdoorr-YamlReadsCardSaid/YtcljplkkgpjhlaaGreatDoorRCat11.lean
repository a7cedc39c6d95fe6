/-
  Parts of the proof: YEntry.
-/
import Derived.Test.YtcljplkkgpjhlaaGreatDoorRCat02
import Derived.Test.YtcljplkkgpjhlaaGreatDoorRCat10
set_option maxRecDepth 100000
set_option maxHeartbeats 8000000
namespace Go.Proofs.YtcljplkkgpjhlaaGreatDoorR
namespace y
open Go.ChangeShapes Go.WideShapes Go.ChangeAt Go.RowKit
attribute [local go_sem ↓] Go.wp_at_zero Go.wp_at_succ
variable {w : World}
theorem unq_le (q : List UInt8) : (unqF (34 :: q)).2.1 ≤ (34 :: q).length := by
  rw [unqF, if_neg (by simp)]
  split
  · simp
  split
  · simp
  · exact Nat.sub_le _ _
def UnqIs (w : World) (line : Nat) (q : List UInt8) (e : Ending) (w' : World) : Prop :=
  if (unqF (34 :: q)).2.2 ≠ 0 then Panics line (unqF (34 :: q)).2.2 e ∧ Fresh w w'
  else e = .returned (.tuple #[.string (tx (unqF (34 :: q)).1), .string (tx ((34 :: q).drop (unqF (34 :: q)).2.1))]) ∧ Fresh w w'
theorem unquoted_any (b : Nat) (R : List Rw) (line : Nat) (q : List UInt8) (w : World) (h : Rdr w b R line) (hE : Env w) (hq : q.length ≤ 90000) :
    Calls Tryz.prog 138 #[.pointer (some ⟨b, 0, none⟩), .string (tx (34 :: q))] w (UnqIs w line q) := by
  have HU : Hid (∀ W : World, Fresh w W → Calls Tryz.prog 74 #[.string (tx (34 :: q))] W fun e w' => e = .returned (.tuple #[.string (tx (unqF (34 :: q)).1), .int .i64 ((unqF (34 :: q)).2.1 : Int), .int .i64 (unqF (34 :: q)).2.2]) ∧ Fresh W w') := fun W f => unquote_mark q W hq (hE.tabs.move f)
  have HR := Lib.hid h
  have hle := unq_le q
  have hsz : (tx (34 :: q)).size = (34 :: q).length := tx_size _
  have HD : Hid ((tx (34 :: q)).extract (unqF (34 :: q)).2.1 (tx (34 :: q)).size = tx ((34 :: q).drop (unqF (34 :: q)).2.1)) := by
    rw [Hid, tx_extract, tx_toList, hsz]
    congr 1
    rw [List.take_of_length_le (by simp)]
  unfold UnqIs
  rw [← hsz] at hle
  generalize (34 :: q).drop (unqF (34 :: q)).2.1 = d at *
  generalize unqF (34 :: q) = u at *
  obtain ⟨t, n, c⟩ := u
  dsimp only at *
  have hs2 : (tx (34 :: q)).size ≤ 100000 := by rw [hsz]; simp; omega
  generalize tx (34 :: q) = s at *
  generalize tx d = sd at *
  generalize tx t = st at *
  clear h hE hsz hq
  by_cases hc : c = 0
  · subst hc
    refine Calls.mono (R := fun e w' => e = .returned (.tuple #[.string st, .string sd]) ∧ Fresh w w') ?_ (fun e w' h => by rw [if_neg (by simp)]; exact h)
    go_enter Tryz.func138, Tryz.ntmps138
    go_wp2_with (go_at_call 74; refine (HU.out _ (Fresh.refl _)).mono ?_; rintro e w1 ⟨rfl, hf⟩; have HF := Lib.hid hf; clear hf)
    have hx : ∀ W : World, (Instr.slice 9 (.string s) (some (.int .i64 (n : Int))) none none).run Tryz.prog W = .ok (.string sd) W := fun W => by
      rw [← HD.out]
      have h1 : (n : Int) ≤ (s.size : Int) := by omega
      simp [go_sem, h1]
    go_quiet (fail)
    go_wp2
    go_ret2
    exact ⟨rfl, v.Fresh.drewN HF.out _⟩
  · refine Calls.mono (R := fun e w' => Panics line c e ∧ Fresh w w') ?_ (fun e w' h => by rw [if_pos hc]; exact h)
    have hx1 : (c == 0) = false := by simpa using hc
    have hx2 : (c != 0) = true := by simpa using hc
    have HW : Hid (∀ W : World, Rdr W b R line → Calls Tryz.prog 54 #[.pointer (some ⟨b, 0, none⟩), .int .i64 c] W fun e w' => e = .returned (misV line c) ∧ Fresh W w') := fun W hW => wrong_any b R line c W hW
    clear hc
    go_enter Tryz.func138, Tryz.ntmps138
    go_wp2_with (first | (go_at_call 74; refine (HU.out _ (Fresh.refl _)).mono ?_; rintro e w1 ⟨rfl, hf⟩; have HF := Lib.hid hf; clear hf) | (go_at_call 54; refine (HW.out _ (HR.out.move HF.out)).mono ?_; rintro e w2 ⟨rfl, hf⟩; have HF2 := Lib.hid hf; clear hf))
    exact ⟨rfl, rfl, HF.out.trans HF2.out⟩
theorem tx_app (a b : List UInt8) : tx a ++ tx b = tx (a ++ b) := by
  apply ByteArray.ext
  simp [tx]
theorem trimS_any (l : List UInt8) (w : World) (hl : l.length ≤ 1000000) : Calls Tryz.prog 115 #[.string (tx l), .string ⟨#[32]⟩] w fun e w' => e = .returned (.string (tx (Lib.trimB l 32))) ∧ Fresh w w' := by
  refine (Any.strings_Trim_one Tryz.laysTrimB (tx l) 32 (by decide) w (by rw [tx_size]; omega)).mono ?_
  rintro e w' ⟨h1, h2⟩
  rw [tx_toList] at h1
  refine ⟨h1, ?_⟩
  rcases h2 with rfl | rfl
  · exact Fresh.refl _
  · exact (Fresh.refl _).drew
theorem cutPre_any (l : List UInt8) (w : World) : Calls Tryz.prog 139 #[.string (tx l), .string ⟨#[58, 32]⟩] w fun e w' => e = .returned (.tuple #[.string (tx (Lib.trimPrefix l [58, 32])), .bool (Lib.hasPrefix l [58, 32])]) ∧ w = w' := by
  refine (Any.strings_CutPrefix Tryz.laysCutPre (tx l) ⟨#[58, 32]⟩ w).mono ?_
  rintro e w' ⟨h1, h2⟩
  rw [tx_toList] at h1
  exact ⟨h1, h2.symm⟩
theorem cutS_any2 (l : List UInt8) (w : World) (hl : l.length ≤ 1000000) (hE : Env w) : Calls Tryz.prog 77 #[.string (tx l), .string ⟨#[58, 32]⟩] w fun e w' => e = .returned (.tuple #[.string (tx (Lib.cut l [58, 32]).1), .string (tx (Lib.cut l [58, 32]).2.1), .bool (Lib.cut l [58, 32]).2.2]) ∧ Fresh w w' := by
  obtain ⟨m, hm⟩ := hE.mx
  refine (Any.strings_Cut Tryz.laysCut (tx l) ⟨#[58, 32]⟩ m w (by rw [tx_size]; omega) hm).mono ?_
  rintro e w' ⟨h1, n, rfl⟩
  rw [tx_toList] at h1
  exact ⟨h1, v.Fresh.drewN (Fresh.refl w) n⟩
abbrev entZ : Value := .agg #[.string ⟨#[]⟩, .bool false, .string ⟨#[]⟩]
def entV (n : Ent) : Value := .agg #[.string (tx n.key), .bool n.quoted, .string (tx n.behind)]
def optV (o : Option Ent) : Value := match o with
  | none => entZ
  | some n => entV n
def EntIs (w : World) (line : Nat) (x : Int × Option Ent) (e : Ending) (w' : World) : Prop :=
  (x.1 ≠ 0 → Panics line x.1 e) ∧ (x.1 = 0 → e = .returned (.tuple #[optV x.2, .bool x.2.isSome])) ∧ Fresh w w'
def EBox (w : World) (g : Nat) : Prop := w.heap[g]? = some (.cells #[.string ⟨#[]⟩, .bool false, .string ⟨#[]⟩] 138 (0, 0))
structure EFacts (w : World) (g : Nat) : Prop where
  c0 : w.cell? ⟨g, 0, none⟩ = some (.string ⟨#[]⟩)
  c1 : w.cell? ⟨g, 1, none⟩ = some (.bool false)
  c2 : w.cell? ⟨g, 2, none⟩ = some (.string ⟨#[]⟩)
  f0 : w.frozen? ⟨g, 0, none⟩ = false
  f1 : w.frozen? ⟨g, 1, none⟩ = false
  f2 : w.frozen? ⟨g, 2, none⟩ = false
  lt : g < w.heap.size
theorem EBox.facts {w : World} {g : Nat} (h : EBox w g) : EFacts w g :=
  have f : ∀ i, w.frozen? ⟨g, i, none⟩ = false := fun i => by simp [World.frozen?, show w.heap[g]? = some (.cells #[.string ⟨#[]⟩, .bool false, .string ⟨#[]⟩] 138 (0, 0)) from h]
  ⟨cell_of_at h rfl, cell_of_at h rfl, cell_of_at h rfl, f 0, f 1, f 2, v.lt_of_at h⟩
theorem EBox.new (w : World) : EBox (w.alloc (.cells #[.string ⟨#[]⟩, .bool false, .string ⟨#[]⟩] 138 (0, 0))) w.heap.size := v.at_new w _
theorem EBox.move {w w' : World} {g : Nat} (h : EBox w g) (f : Fresh w w') : EBox w' g := v.Fresh.at f h
theorem set3_fresh {W a b : World} {g : Nat} (h : Fresh W a) (hf : Fresh a b) (hg : W.heap.size ≤ g) (u0 u1 u2 : Value) : Fresh W (((b.setCell ⟨g, 0, none⟩ u0).setCell ⟨g, 1, none⟩ u1).setCell ⟨g, 2, none⟩ u2) :=
  (((h.trans hf).setCell hg u0).setCell hg u1).setCell hg u2
theorem entM_q (q : List UInt8) (h : (unqF (34 :: q)).2.2 = 0) : entM (34 :: q) = restE (unqF (34 :: q)).1 ((34 :: q).drop (unqF (34 :: q)).2.1) := by
  rw [entM, if_pos (show (34 :: q).head? = some 34 from rfl), if_neg (by simp [h])]
theorem entM_bad (q : List UInt8) (h : (unqF (34 :: q)).2.2 ≠ 0) : entM (34 :: q) = ((unqF (34 :: q)).2.2, none) := by
  rw [entM, if_pos (show (34 :: q).head? = some 34 from rfl), if_pos h]
theorem quotedEntry_any (b : Nat) (R : List Rw) (line : Nat) (q : List UInt8) (w : World) (h : Rdr w b R line) (hE : Env w) (hq : q.length ≤ 90000) (ht : Trimmed (34 :: q)) :
    Calls Tryz.prog 114 #[.pointer (some ⟨b, 0, none⟩), .string (tx (34 :: q))] w (EntIs w line (entM (34 :: q))) := by
  have HU : Hid (∀ W : World, Fresh w W → Calls Tryz.prog 138 #[.pointer (some ⟨b, 0, none⟩), .string (tx (34 :: q))] W (UnqIs W line q)) := fun W f => unquoted_any b R line q W (h.move f) (hE.move f) hq
  have HR := Lib.hid h
  have HD : Hid (Trimmed ((34 :: q).drop (unqF (34 :: q)).2.1) ∧ ((34 :: q).drop (unqF (34 :: q)).2.1).length ≤ 100000) := ⟨ht.drop _, by simp; omega⟩
  unfold UnqIs at HU
  by_cases hc : (unqF (34 :: q)).2.2 = 0
  · have HE : Hid (entM (34 :: q) = restE (unqF (34 :: q)).1 ((34 :: q).drop (unqF (34 :: q)).2.1)) := entM_q q hc
    have HU1 : Hid (∀ W : World, Fresh w W → Calls Tryz.prog 138 #[.pointer (some ⟨b, 0, none⟩), .string (tx (34 :: q))] W fun e w' => e = .returned (.tuple #[.string (tx (unqF (34 :: q)).1), .string (tx ((34 :: q).drop (unqF (34 :: q)).2.1))]) ∧ Fresh W w') :=
      fun W f => (HU.out W f).mono fun e w' k => by rw [if_neg (by simp [hc])] at k; exact k
    rw [HE.out]
    clear HU h hE hq ht hc HE
    generalize (34 :: q).drop (unqF (34 :: q)).2.1 = d at *
    generalize (unqF (34 :: q)).1 = t at *
    generalize tx (34 :: q) = s at *
    have HB := Lib.hid (EBox.new w)
    have HF0 := Lib.hid ((Fresh.refl w).alloc (.cells #[.string ⟨#[]⟩, .bool false, .string ⟨#[]⟩] 138 (0, 0)))
    cases d with
    | nil =>
      have e1 : (tx []).toList.isEmpty = true := by rw [tx_list]; rfl
      refine Calls.mono (R := fun e w' => e = .returned (.tuple #[entZ, .bool false]) ∧ Fresh w w') ?_ (fun e w' k => ⟨fun h => absurd rfl h, fun _ => k.1, k.2⟩)
      generalize tx [] = sd at *
      generalize tx t = st at *
      clear HD HR
      go_enter Tryz.func114, Tryz.ntmps114
      go_wp2_with fail
      generalize w.alloc (.cells #[.string ⟨#[]⟩, .bool false, .string ⟨#[]⟩] 138 (0, 0)) = w0 at *
      generalize hsz : w.heap.size = sz at *
      have HSZ := Lib.hid hsz
      clear hsz
      refine (HU1.out _ HF0.out).mono ?_
      rintro e w1 ⟨rfl, hf⟩
      obtain ⟨c0, c1, c2, f0, f1, f2, lt⟩ := (HB.out.move hf).facts
      have HF := Lib.hid hf
      clear hf
      go_wp2
      refine bodyPost_ret (v := .tuple #[entZ, .bool false]) (by simp [results, Tryz.results114, go_sem, *]) rfl ⟨rfl, ?_⟩
      exact set3_fresh HF0.out HF.out (Nat.le_of_eq HSZ.out) _ _ _
    | cons c r =>
      have e1 : (tx (c :: r)).toList.isEmpty = false := by rw [tx_list]; rfl
      have ea : tx (c :: r) ++ ⟨#[32]⟩ = tx (c :: r ++ [32]) := tx_app (c :: r) [32]
      have hsd : (tx (c :: r)).size ≤ 100000 := by rw [tx_size]; exact HD.out.2
      have HC := Lib.hid (fun W => cutPre_any (c :: r ++ [32]) W)
      by_cases hx : c.toNat = 58 ∧ endB r = true
      · have hr : Trimmed r := HD.out.1.drop 1
        have HT : Hid (∀ W : World, Calls Tryz.prog 115 #[.string (tx ((r ++ [32]).drop 1)), .string ⟨#[32]⟩] W fun e w' => e = .returned (.string (tx (lead r))) ∧ Fresh W w') := fun W => by
          have := trimS_any ((r ++ [32]).drop 1) W (by have := HD.out.2; simp at this ⊢; omega)
          rw [trim_behind r hx.2 hr] at this
          exact this
        rw [pre_rest, pre_cut c r hx, decide_eq_true hx] at HC
        have HE2 : Hid (restE t (c :: r) = (0, some ⟨t, true, lead r⟩)) := if_pos hx
        rw [HE2.out]
        refine Calls.mono (R := fun e w' => e = .returned (.tuple #[.agg #[.string (tx t), .bool true, .string (tx (lead r))], .bool true]) ∧ Fresh w w') ?_ (fun e w' k => ⟨fun h => absurd rfl h, fun _ => k.1, k.2⟩)
        clear HE2 hx hr HD HR
        generalize tx (c :: r) = sd at *
        generalize tx t = st at *
        generalize tx (c :: r ++ [32]) = s2 at *
        generalize tx ((r ++ [32]).drop 1) = s3 at *
        generalize tx (lead r) = s4 at *
        go_enter Tryz.func114, Tryz.ntmps114
        go_wp2_with fail
        generalize w.alloc (.cells #[.string ⟨#[]⟩, .bool false, .string ⟨#[]⟩] 138 (0, 0)) = w0 at *
        generalize hsz : w.heap.size = sz at *
        have HSZ := Lib.hid hsz
        clear hsz
        refine (HU1.out _ HF0.out).mono ?_
        rintro e w1 ⟨rfl, hf⟩
        have HF1 := Lib.hid hf
        clear hf
        go_wp2_with (go_at_call 139; refine (HC.out _).mono ?_; rintro e w2 ⟨rfl, rfl⟩)
        go_wp2_with fail
        refine (HT.out _).mono ?_
        rintro e w2 ⟨rfl, hf⟩
        obtain ⟨c0, c1, c2, f0, f1, f2, lt⟩ := ((HB.out.move HF1.out).move hf).facts
        have HF2 := Lib.hid (HF1.out.trans hf)
        clear hf
        go_wp2
        refine bodyPost_ret (v := .tuple #[.agg #[.string st, .bool true, .string s4], .bool true]) (by simp [results, Tryz.results114, go_sem, *]) rfl ⟨rfl, ?_⟩
        exact set3_fresh HF0.out HF2.out (Nat.le_of_eq HSZ.out) _ _ _
      · have HE2 : Hid (restE t (c :: r) = (6, none)) := if_neg hx
        have HW : Hid (∀ W : World, Fresh w W → Calls Tryz.prog 54 #[.pointer (some ⟨b, 0, none⟩), .int .i64 6] W fun e w' => e = .returned (misV line 6) ∧ Fresh W w') := fun W f => wrong_any b R line 6 W (HR.out.move f)
        rw [pre_rest, decide_eq_false hx] at HC
        rw [HE2.out]
        refine Calls.mono (R := fun e w' => Panics line 6 e ∧ Fresh w w') ?_ (fun e w' k => ⟨fun _ => k.1, fun h => absurd h (by decide), k.2⟩)
        clear HE2 hx HD HR HB
        generalize tx (c :: r) = sd at *
        generalize tx t = st at *
        generalize tx (c :: r ++ [32]) = s2 at *
        generalize tx (Lib.trimPrefix (c :: r ++ [32]) [58, 32]) = s3 at *
        go_enter Tryz.func114, Tryz.ntmps114
        go_wp2_with fail
        refine (HU1.out _ HF0.out).mono ?_
        rintro e w1 ⟨rfl, hf⟩
        have HF1 := Lib.hid (HF0.out.trans hf)
        clear hf
        go_wp2_with (first | (go_at_call 139; refine (HC.out _).mono ?_; rintro e w2 ⟨rfl, rfl⟩) | (go_at_call 54; refine (HW.out _ HF1.out).mono ?_; rintro e w2 ⟨rfl, hf⟩; have HF2 := Lib.hid hf; clear hf))
        exact ⟨rfl, rfl, HF1.out.trans HF2.out⟩
  · have HE := Lib.hid (entM_bad q hc)
    have HU1 : Hid (∀ W : World, Fresh w W → Calls Tryz.prog 138 #[.pointer (some ⟨b, 0, none⟩), .string (tx (34 :: q))] W fun e w' => Panics line (unqF (34 :: q)).2.2 e ∧ Fresh W w') :=
      fun W f => (HU.out W f).mono fun e w' k => by rw [if_pos hc] at k; exact k
    rw [HE.out]
    refine Calls.mono (R := fun e w' => Panics line (unqF (34 :: q)).2.2 e ∧ Fresh w w') ?_ (fun e w' k => ⟨fun _ => k.1, fun h => absurd h hc, k.2⟩)
    have HF0 := Lib.hid ((Fresh.refl w).alloc (.cells #[.string ⟨#[]⟩, .bool false, .string ⟨#[]⟩] 138 (0, 0)))
    clear HU h hE hq ht hc HE HD HR
    generalize (unqF (34 :: q)).2.2 = x at *
    generalize tx (34 :: q) = s at *
    go_enter Tryz.func114, Tryz.ntmps114
    go_wp2_with fail
    refine (HU1.out _ HF0.out).mono ?_
    rintro e w1 ⟨hp, hf⟩
    have HF1 := Lib.hid (HF0.out.trans hf)
    clear hf
    unfold Panics at hp
    subst hp
    go_wp2
    exact ⟨rfl, rfl, HF1.out⟩
end y
end Go.Proofs.YtcljplkkgpjhlaaGreatDoorR
