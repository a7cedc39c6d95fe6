/-
  Package yaml: plain keys; what the calls lean on.
  Where a key row's colon stands: plain facts.
  Package yaml's reader: quoted parts, key rows.
  Package yaml's reader: the key row that a text is.
  Of regions that draw their order: loads are taken first although the region's last stores write their cells; two chains in whatever order. Of no program.
  Rows of the call's own, boxes, and what lies beside them: small facts.
-/
import Derived.Test.YthhdadfnkdjmkaaGreatDoorCat10
import Derived.Test.YthhdadfnkdjmkaaGreatDoorCat09
import Derived.Lib.IndexMore
import Derived.Test.YthhdadfnkdjmkaaGreatDoorCat03
import Derived.OrdersHeld
import Derived.Laws.World
import Derived.Deep.DrawnRows
import Derived.RegionTactic
import Derived.Laws.IdiomStrings
namespace Go.Proofs.YthhdadfnkdjmkaaGreatDoor.y
open Go.ChangeShapes Go.WideShapes Go.ChangeAt Go.RowKit
attribute [local go_sem ↓] Go.wp_at_zero Go.wp_at_succ
variable {w : World}

/-- What the library's calls ask of the world: its tables and variables. -/
structure Env (w : World) : Prop where
  tabs : Tabs w
  rng : RangeVar w
  mx : ∃ m : Int, w.cell? ⟨Tryz.laysCut_ren.g 1, 0, none⟩ = some (.int .i64 m)
theorem Env.move {w w' : World} (h : Env w) (f : Fresh w w') : Env w' :=
  ⟨h.tabs.move f, h.rng.move f, let ⟨m, hm⟩ := h.mx; ⟨m, (Below.cell f (World.block_lt_of_cell? w _ hm)).trans hm⟩⟩
set_option maxHeartbeats 1000000 in
theorem key_any (l : List UInt8) (w : World) (hl : l.length ≤ 1000000) : Calls Tryz.prog 12 #[.string (tx l)] w fun e w' => e = .returned (.bool (keyB l)) ∧ Fresh w w' := by
  have HB := Lib.hid (fun W => byName_any l W)
  have HO : Hid (∀ W : World, Calls Tryz.prog 33 #[.string (tx l), .string ⟨#[46, 95, 47, 45]⟩] W fun e w' => e = .returned (.bool (onlyB inK (tx l).data.toList)) ∧ W = w') := fun W => hasOnly_any (tx l) [46, 95, 47, 45] W (by rw [tx_size]; exact hl)
  cases l with
  | nil =>
    have HX : Hid (keyB [] = false) := rfl
    rw [HX.out]
    have e1 : (tx []).toList.isEmpty = true := by rw [tx_list]; rfl
    generalize tx [] = s at *
    clear hl HB HO HX
    go_enter Tryz.func12, Tryz.ntmps12
    go_wp2_with fail
    go_ret
    exact ⟨rfl, Fresh.refl w⟩
  | cons c r =>
    have HL := Lib.hid (fun W => isLetter_any c W)
    obtain ⟨p1, p2, p3, p4⟩ : Cons (tx (c :: r)) c (tx r) := bs_cons c r
    have HK : Hid (keyB (c :: r) = ((letB c || decide (c.toNat = 95)) && (!namedB (c :: r) && onlyB inK (c :: r)))) := rfl
    rw [tx_toList] at HO
    rw [HK.out]
    clear HK hl
    generalize onlyB inK (c :: r) = ob at *
    generalize nameM (c :: r) = nm at *
    generalize namedB (c :: r) = nb at *
    generalize tx (c :: r) = s at *
    clear p3
    obtain ⟨k0, k1, k2, k3, ka, kc, kl, kb, kd, ks⟩ := nm
    cases h1 : letB c
    · by_cases h2 : c.toNat = 95
      · have g1 : ((c.toNat : Int) == 95) = true := by simp; omega
        have g2 : ((c.toNat : Int) != 95) = false := by simp; omega
        rw [decide_eq_true h2]
        clear h2
        rw [h1] at HL
        cases nb
        · go_enter Tryz.func12, Tryz.ntmps12
          go_wp2_with (first | (go_at_call 31; refine (HL.out _).mono ?_; rintro e w' ⟨rfl, rfl⟩) | (go_at_call 32; refine (HB.out _).mono ?_; rintro e w1 ⟨rfl, hf1⟩; have HF1 := Lib.hid hf1; clear hf1; unfold v.M.val) | (go_at_call 33; refine (HO.out _).mono ?_; rintro e w2 ⟨rfl, rfl⟩))
          go_ret
          exact ⟨by rfl, (HF1.out).alloc _⟩
        · go_enter Tryz.func12, Tryz.ntmps12
          go_wp2_with (first | (go_at_call 31; refine (HL.out _).mono ?_; rintro e w' ⟨rfl, rfl⟩) | (go_at_call 32; refine (HB.out _).mono ?_; rintro e w1 ⟨rfl, hf1⟩; have HF1 := Lib.hid hf1; clear hf1; unfold v.M.val) | (go_at_call 33; refine (HO.out _).mono ?_; rintro e w2 ⟨rfl, rfl⟩))
          go_ret
          exact ⟨by rfl, (HF1.out).alloc _⟩
      · have g1 : ((c.toNat : Int) == 95) = false := by simp; omega
        have g2 : ((c.toNat : Int) != 95) = true := by simp; omega
        rw [decide_eq_false h2]
        clear h2 HB HO
        rw [h1] at HL
        go_enter Tryz.func12, Tryz.ntmps12
        go_wp2_with (go_at_call 31; refine (HL.out _).mono ?_; rintro e w' ⟨rfl, rfl⟩)
        go_ret
        exact ⟨rfl, Fresh.refl w⟩
    · rw [h1] at HL
      cases nb
      · go_enter Tryz.func12, Tryz.ntmps12
        go_wp2_with (first | (go_at_call 31; refine (HL.out _).mono ?_; rintro e w' ⟨rfl, rfl⟩) | (go_at_call 32; refine (HB.out _).mono ?_; rintro e w1 ⟨rfl, hf1⟩; have HF1 := Lib.hid hf1; clear hf1; unfold v.M.val) | (go_at_call 33; refine (HO.out _).mono ?_; rintro e w2 ⟨rfl, rfl⟩))
        go_ret
        exact ⟨by rfl, (HF1.out).alloc _⟩
      · go_enter Tryz.func12, Tryz.ntmps12
        go_wp2_with (first | (go_at_call 31; refine (HL.out _).mono ?_; rintro e w' ⟨rfl, rfl⟩) | (go_at_call 32; refine (HB.out _).mono ?_; rintro e w1 ⟨rfl, hf1⟩; have HF1 := Lib.hid hf1; clear hf1; unfold v.M.val) | (go_at_call 33; refine (HO.out _).mono ?_; rintro e w2 ⟨rfl, rfl⟩))
        go_ret
        exact ⟨by rfl, (HF1.out).alloc _⟩
end Go.Proofs.YthhdadfnkdjmkaaGreatDoor.y
namespace Go.Proofs.YthhdadfnkdjmkaaGreatDoor.y
open Go.Lib (index cut trimB trimLeftB trimRightB hasPrefix trimPrefix)

theorem u8_iff (c : UInt8) (n : Nat) (hn : n < 256) : c = UInt8.ofNat n ↔ c.toNat = n := by
  constructor
  · rintro rfl
    rw [UInt8.toNat_ofNat']; omega
  · intro h
    apply UInt8.toNat_inj.1
    rw [UInt8.toNat_ofNat']; omega
theorem is32 (c : UInt8) : c = 32 ↔ c.toNat = 32 := u8_iff c 32 (by decide)
theorem is58 (c : UInt8) : c = 58 ↔ c.toNat = 58 := u8_iff c 58 (by decide)
theorem pre_colon (c : UInt8) (r : List UInt8) : ([58, 32] : List UInt8).isPrefixOf (c :: (r ++ [32])) = decide (c.toNat = 58 ∧ endB r = true) := by
  have e1 : ((58 : UInt8) == c) = decide (c.toNat = 58) := by
    rw [Bool.eq_iff_iff]
    simp only [beq_iff_eq, decide_eq_true_eq]
    rw [← is58]; exact eq_comm
  cases r with
  | nil =>
    simp only [List.nil_append, List.isPrefixOf, endB, e1]
    simp
  | cons d t =>
    have e2 : ((32 : UInt8) == d) = decide (d.toNat = 32) := by
      rw [Bool.eq_iff_iff]
      simp only [beq_iff_eq, decide_eq_true_eq]
      rw [← is32]; exact eq_comm
    simp only [List.cons_append, List.isPrefixOf, endB, e1, e2]
    rw [Bool.eq_iff_iff]
    simp
theorem index_colon : ∀ l : List UInt8, index (l ++ [32]) [58, 32] = match colon l with | none => -1 | some i => (i : Int)
  | [] => by decide
  | c :: r => by
    rw [List.cons_append, index, pre_colon, index_colon r, colon]
    by_cases h : c.toNat = 58 ∧ endB r = true
    · rw [if_pos h]; simp [h]
    · rw [if_neg h]
      simp only [h, decide_false, Bool.false_eq_true, if_false]
      cases colon r with
      | none => rfl
      | some i =>
        simp only [Option.map_some]
        have : ¬ ((i : Int) == -1) = true := by simp
        rw [if_neg this]
        push_cast; rfl
theorem colon_some : ∀ (l : List UInt8) (i : Nat), colon l = some i → i < l.length ∧ endB (l.drop (i + 1)) = true
  | [], i, h => by cases h
  | c :: r, i, h => by
    rw [colon] at h
    split at h
    · rename_i hc
      cases h
      exact ⟨by simp, hc.2⟩
    · cases hr : colon r with
      | none => rw [hr] at h; cases h
      | some j =>
        rw [hr] at h
        cases h
        obtain ⟨h1, h2⟩ := colon_some r j hr
        exact ⟨by simp; omega, h2⟩
/-- No blank at the end. -/
def Trimmed (l : List UInt8) : Prop := l.getLast? ≠ some 32
theorem Trimmed.drop {l : List UInt8} (h : Trimmed l) (k : Nat) : Trimmed (l.drop k) := by
  unfold Trimmed at *
  rw [List.getLast?_drop]
  split
  · simp
  · exact h
theorem lead_eq (l : List UInt8) : lead l = trimLeftB l 32 := by
  unfold lead blanks trimLeftB
  induction l with
  | nil => rfl
  | cons c r ih =>
    simp only [List.takeWhile_cons, List.dropWhile_cons]
    split
    · simpa using ih
    · rfl
theorem trimR_blank (l : List UInt8) (h : Trimmed l) : trimRightB (l ++ [32]) 32 = l := by
  unfold trimRightB
  rw [List.reverse_append]
  rcases List.eq_nil_or_concat l with rfl | ⟨a, c, rfl⟩
  · rfl
  · have hc : (c == 32) = false := by
      unfold Trimmed at h
      simpa using h
    simp [hc]
theorem trim_blank (l : List UInt8) (h : Trimmed l) : trimB (l ++ [32]) 32 = lead l := by
  unfold trimB
  rw [trimR_blank l h, lead_eq]
/-- What is behind a colon, in the code's way and the document's. -/
theorem trim_behind (r : List UInt8) (he : endB r = true) (h : Trimmed r) : trimB ((r ++ [32]).drop 1) 32 = lead r := by
  cases r with
  | nil => rfl
  | cons c t =>
    have hc : c = 32 := (is32 c).2 (of_decide_eq_true he)
    subst hc
    show trimB (t ++ [32]) 32 = _
    rw [trim_blank t (h.drop 1), lead_eq, lead_eq]
    rfl
theorem cut_none (l : List UInt8) (h : colon l = none) : (cut (l ++ [32]) [58, 32]).2.2 = false := by
  unfold cut
  rw [index_colon, h]
  rfl
theorem cut_some (l : List UInt8) (i : Nat) (h : colon l = some i) : cut (l ++ [32]) [58, 32] = (l.take i, (l.drop (i + 1) ++ [32]).drop 1, true) := by
  obtain ⟨h1, _⟩ := colon_some l i h
  unfold cut
  rw [index_colon, h]
  show (if 0 ≤ (i : Int) then _ else _) = _
  rw [if_pos (by omega)]
  have e1 : (l ++ [32]).take i = l.take i := List.take_append_of_le_length (by omega)
  have e2 : (l ++ [32]).drop (i + 2) = (l.drop (i + 1) ++ [32]).drop 1 := by
    rw [← List.drop_append_of_le_length (by omega), List.drop_drop]
  simp only [Int.toNat_natCast, List.length_cons, List.length_nil, e1, e2]
theorem pre_rest (c : UInt8) (r : List UInt8) : hasPrefix (c :: r ++ [32]) [58, 32] = decide (c.toNat = 58 ∧ endB r = true) := pre_colon c r
theorem pre_cut (c : UInt8) (r : List UInt8) (h : c.toNat = 58 ∧ endB r = true) : trimPrefix (c :: r ++ [32]) [58, 32] = (r ++ [32]).drop 1 := by
  unfold trimPrefix
  rw [if_pos (by rw [pre_rest]; exact decide_eq_true h)]
  rfl
end Go.Proofs.YthhdadfnkdjmkaaGreatDoor.y
namespace Go.Proofs.YthhdadfnkdjmkaaGreatDoor.y
open Go.ChangeShapes Go.WideShapes Go.ChangeAt Go.RowKit
attribute [local go_sem ↓] Go.wp_at_zero Go.wp_at_succ
variable {w : World}

theorem unq_le (q : List UInt8) : (unqF (34 :: q)).2.1 ≤ (34 :: q).length := by
  rw [unqF, if_neg (by simp)]
  split
  · simp
  split
  · simp
  · exact Nat.sub_le _ _
/-- What a quoted part comes to. -/
def UnqIs (w : World) (line : Nat) (q : List UInt8) (e : Ending) (w' : World) : Prop :=
  if (unqF (34 :: q)).2.2 ≠ 0 then Panics line (unqF (34 :: q)).2.2 e ∧ Fresh w w'
  else e = .returned (.tuple #[.string (tx (unqF (34 :: q)).1), .string (tx ((34 :: q).drop (unqF (34 :: q)).2.1))]) ∧ Fresh w w'
set_option maxHeartbeats 1000000 in
theorem unquoted_any (b : Nat) (R : List Rw) (line : Nat) (q : List UInt8) (w : World) (h : Rdr w b R line) (hE : Env w) (hq : q.length ≤ 90000) :
    Calls Tryz.prog 138 #[.pointer (some ⟨b, 0, none⟩), .string (tx (34 :: q))] w (UnqIs w line q) := by
  have HU : Hid (∀ W : World, Fresh w W → Calls Tryz.prog 74 #[.string (tx (34 :: q))] W fun e w' => e = .returned (.tuple #[.string (tx (unqF (34 :: q)).1), .int .i64 ((unqF (34 :: q)).2.1 : Int), .int .i64 (unqF (34 :: q)).2.2]) ∧ Fresh W w') := fun W f => unquote_mark q W hq (hE.tabs.move f)
  have HR := Lib.hid h
  have hle := unq_le q
  have hsz : (tx (34 :: q)).size = (34 :: q).length := tx_size _
  have HD : Hid ((tx (34 :: q)).extract (unqF (34 :: q)).2.1 (tx (34 :: q)).size = tx ((34 :: q).drop (unqF (34 :: q)).2.1)) := by
    rw [Hid, tx_extract, tx_toList, hsz]
    congr 1
    rw [List.take_of_length_le (by simp)]
  unfold UnqIs
  rw [← hsz] at hle
  generalize (34 :: q).drop (unqF (34 :: q)).2.1 = d at *
  generalize unqF (34 :: q) = u at *
  obtain ⟨t, n, c⟩ := u
  dsimp only at *
  have hs2 : (tx (34 :: q)).size ≤ 100000 := by rw [hsz]; simp; omega
  generalize tx (34 :: q) = s at *
  generalize tx d = sd at *
  generalize tx t = st at *
  clear h hE hsz hq
  by_cases hc : c = 0
  · subst hc
    refine Calls.mono (R := fun e w' => e = .returned (.tuple #[.string st, .string sd]) ∧ Fresh w w') ?_ (fun e w' h => by rw [if_neg (by simp)]; exact h)
    go_enter Tryz.func138, Tryz.ntmps138
    go_wp2_with (go_at_call 74; refine (HU.out _ (Fresh.refl _)).mono ?_; rintro e w1 ⟨rfl, hf⟩; have HF := Lib.hid hf; clear hf)
    have hx : ∀ W : World, (Instr.slice 9 (.string s) (some (.int .i64 (n : Int))) none none).run Tryz.prog W = .ok (.string sd) W := fun W => by
      rw [← HD.out]
      have h1 : (n : Int) ≤ (s.size : Int) := by omega
      simp [go_sem, h1]
    go_quiet (fail)
    go_wp2
    go_ret2
    exact ⟨rfl, v.Fresh.drewN HF.out _⟩
  · refine Calls.mono (R := fun e w' => Panics line c e ∧ Fresh w w') ?_ (fun e w' h => by rw [if_pos hc]; exact h)
    have hx1 : (c == 0) = false := by simpa using hc
    have hx2 : (c != 0) = true := by simpa using hc
    have HW : Hid (∀ W : World, Rdr W b R line → Calls Tryz.prog 54 #[.pointer (some ⟨b, 0, none⟩), .int .i64 c] W fun e w' => e = .returned (misV line c) ∧ Fresh W w') := fun W hW => wrong_any b R line c W hW
    clear hc
    go_enter Tryz.func138, Tryz.ntmps138
    go_wp2_with (first | (go_at_call 74; refine (HU.out _ (Fresh.refl _)).mono ?_; rintro e w1 ⟨rfl, hf⟩; have HF := Lib.hid hf; clear hf) | (go_at_call 54; refine (HW.out _ (HR.out.move HF.out)).mono ?_; rintro e w2 ⟨rfl, hf⟩; have HF2 := Lib.hid hf; clear hf))
    exact ⟨rfl, rfl, HF.out.trans HF2.out⟩
theorem tx_app (a b : List UInt8) : tx a ++ tx b = tx (a ++ b) := by
  apply ByteArray.ext
  simp [tx]
theorem trimS_any (l : List UInt8) (w : World) (hl : l.length ≤ 1000000) : Calls Tryz.prog 115 #[.string (tx l), .string ⟨#[32]⟩] w fun e w' => e = .returned (.string (tx (Lib.trimB l 32))) ∧ Fresh w w' := by
  refine (Any.strings_Trim_one Tryz.laysTrimB (tx l) 32 (by decide) w (by rw [tx_size]; omega)).mono ?_
  rintro e w' ⟨h1, h2⟩
  rw [tx_toList] at h1
  refine ⟨h1, ?_⟩
  rcases h2 with rfl | rfl
  · exact Fresh.refl _
  · exact (Fresh.refl _).drew
theorem cutPre_any (l : List UInt8) (w : World) : Calls Tryz.prog 139 #[.string (tx l), .string ⟨#[58, 32]⟩] w fun e w' => e = .returned (.tuple #[.string (tx (Lib.trimPrefix l [58, 32])), .bool (Lib.hasPrefix l [58, 32])]) ∧ w = w' := by
  refine (Any.strings_CutPrefix Tryz.laysCutPre (tx l) ⟨#[58, 32]⟩ w).mono ?_
  rintro e w' ⟨h1, h2⟩
  rw [tx_toList] at h1
  exact ⟨h1, h2.symm⟩
theorem cutS_any2 (l : List UInt8) (w : World) (hl : l.length ≤ 1000000) (hE : Env w) : Calls Tryz.prog 77 #[.string (tx l), .string ⟨#[58, 32]⟩] w fun e w' => e = .returned (.tuple #[.string (tx (Lib.cut l [58, 32]).1), .string (tx (Lib.cut l [58, 32]).2.1), .bool (Lib.cut l [58, 32]).2.2]) ∧ Fresh w w' := by
  obtain ⟨m, hm⟩ := hE.mx
  refine (Any.strings_Cut Tryz.laysCut (tx l) ⟨#[58, 32]⟩ m w (by rw [tx_size]; omega) hm).mono ?_
  rintro e w' ⟨h1, n, rfl⟩
  rw [tx_toList] at h1
  exact ⟨h1, v.Fresh.drewN (Fresh.refl w) n⟩
abbrev entZ : Value := .agg #[.string ⟨#[]⟩, .bool false, .string ⟨#[]⟩]
def entV (n : Ent) : Value := .agg #[.string (tx n.key), .bool n.quoted, .string (tx n.behind)]
def optV (o : Option Ent) : Value := match o with
  | none => entZ
  | some n => entV n
/-- What a text's reading as a key row comes to. -/
def EntIs (w : World) (line : Nat) (x : Int × Option Ent) (e : Ending) (w' : World) : Prop :=
  (x.1 ≠ 0 → Panics line x.1 e) ∧ (x.1 = 0 → e = .returned (.tuple #[optV x.2, .bool x.2.isSome])) ∧ Fresh w w'
/-- A box of a key row that nothing was stored into. -/
def EBox (w : World) (g : Nat) : Prop := w.heap[g]? = some (.cells #[.string ⟨#[]⟩, .bool false, .string ⟨#[]⟩] 138 (0, 0))
structure EFacts (w : World) (g : Nat) : Prop where
  c0 : w.cell? ⟨g, 0, none⟩ = some (.string ⟨#[]⟩)
  c1 : w.cell? ⟨g, 1, none⟩ = some (.bool false)
  c2 : w.cell? ⟨g, 2, none⟩ = some (.string ⟨#[]⟩)
  f0 : w.frozen? ⟨g, 0, none⟩ = false
  f1 : w.frozen? ⟨g, 1, none⟩ = false
  f2 : w.frozen? ⟨g, 2, none⟩ = false
  lt : g < w.heap.size
theorem EBox.facts {w : World} {g : Nat} (h : EBox w g) : EFacts w g :=
  have f : ∀ i, w.frozen? ⟨g, i, none⟩ = false := fun i => by simp [World.frozen?, show w.heap[g]? = some (.cells #[.string ⟨#[]⟩, .bool false, .string ⟨#[]⟩] 138 (0, 0)) from h]
  ⟨cell_of_at h rfl, cell_of_at h rfl, cell_of_at h rfl, f 0, f 1, f 2, v.lt_of_at h⟩
theorem EBox.new (w : World) : EBox (w.alloc (.cells #[.string ⟨#[]⟩, .bool false, .string ⟨#[]⟩] 138 (0, 0))) w.heap.size := v.at_new w _
theorem EBox.move {w w' : World} {g : Nat} (h : EBox w g) (f : Fresh w w') : EBox w' g := v.Fresh.at f h
theorem set3_fresh {W a b : World} {g : Nat} (h : Fresh W a) (hf : Fresh a b) (hg : W.heap.size ≤ g) (u0 u1 u2 : Value) : Fresh W (((b.setCell ⟨g, 0, none⟩ u0).setCell ⟨g, 1, none⟩ u1).setCell ⟨g, 2, none⟩ u2) :=
  (((h.trans hf).setCell hg u0).setCell hg u1).setCell hg u2
theorem entM_q (q : List UInt8) (h : (unqF (34 :: q)).2.2 = 0) : entM (34 :: q) = restE (unqF (34 :: q)).1 ((34 :: q).drop (unqF (34 :: q)).2.1) := by
  rw [entM, if_pos (show (34 :: q).head? = some 34 from rfl), if_neg (by simp [h])]
theorem entM_bad (q : List UInt8) (h : (unqF (34 :: q)).2.2 ≠ 0) : entM (34 :: q) = ((unqF (34 :: q)).2.2, none) := by
  rw [entM, if_pos (show (34 :: q).head? = some 34 from rfl), if_pos h]
set_option maxHeartbeats 1000000 in
theorem quotedEntry_any (b : Nat) (R : List Rw) (line : Nat) (q : List UInt8) (w : World) (h : Rdr w b R line) (hE : Env w) (hq : q.length ≤ 90000) (ht : Trimmed (34 :: q)) :
    Calls Tryz.prog 114 #[.pointer (some ⟨b, 0, none⟩), .string (tx (34 :: q))] w (EntIs w line (entM (34 :: q))) := by
  have HU : Hid (∀ W : World, Fresh w W → Calls Tryz.prog 138 #[.pointer (some ⟨b, 0, none⟩), .string (tx (34 :: q))] W (UnqIs W line q)) := fun W f => unquoted_any b R line q W (h.move f) (hE.move f) hq
  have HR := Lib.hid h
  have HD : Hid (Trimmed ((34 :: q).drop (unqF (34 :: q)).2.1) ∧ ((34 :: q).drop (unqF (34 :: q)).2.1).length ≤ 100000) := ⟨ht.drop _, by simp; omega⟩
  unfold UnqIs at HU
  by_cases hc : (unqF (34 :: q)).2.2 = 0
  · have HE : Hid (entM (34 :: q) = restE (unqF (34 :: q)).1 ((34 :: q).drop (unqF (34 :: q)).2.1)) := entM_q q hc
    have HU1 : Hid (∀ W : World, Fresh w W → Calls Tryz.prog 138 #[.pointer (some ⟨b, 0, none⟩), .string (tx (34 :: q))] W fun e w' => e = .returned (.tuple #[.string (tx (unqF (34 :: q)).1), .string (tx ((34 :: q).drop (unqF (34 :: q)).2.1))]) ∧ Fresh W w') :=
      fun W f => (HU.out W f).mono fun e w' k => by rw [if_neg (by simp [hc])] at k; exact k
    rw [HE.out]
    clear HU h hE hq ht hc HE
    generalize (34 :: q).drop (unqF (34 :: q)).2.1 = d at *
    generalize (unqF (34 :: q)).1 = t at *
    generalize tx (34 :: q) = s at *
    have HB := Lib.hid (EBox.new w)
    have HF0 := Lib.hid ((Fresh.refl w).alloc (.cells #[.string ⟨#[]⟩, .bool false, .string ⟨#[]⟩] 138 (0, 0)))
    cases d with
    | nil =>
      have e1 : (tx []).toList.isEmpty = true := by rw [tx_list]; rfl
      refine Calls.mono (R := fun e w' => e = .returned (.tuple #[entZ, .bool false]) ∧ Fresh w w') ?_ (fun e w' k => ⟨fun h => absurd rfl h, fun _ => k.1, k.2⟩)
      generalize tx [] = sd at *
      generalize tx t = st at *
      clear HD HR
      go_enter Tryz.func114, Tryz.ntmps114
      go_wp2_with fail
      generalize w.alloc (.cells #[.string ⟨#[]⟩, .bool false, .string ⟨#[]⟩] 138 (0, 0)) = w0 at *
      generalize hsz : w.heap.size = sz at *
      have HSZ := Lib.hid hsz
      clear hsz
      refine (HU1.out _ HF0.out).mono ?_
      rintro e w1 ⟨rfl, hf⟩
      obtain ⟨c0, c1, c2, f0, f1, f2, lt⟩ := (HB.out.move hf).facts
      have HF := Lib.hid hf
      clear hf
      go_wp2
      refine bodyPost_ret (v := .tuple #[entZ, .bool false]) (by simp [results, Tryz.results114, go_sem, *]) rfl ⟨rfl, ?_⟩
      exact set3_fresh HF0.out HF.out (Nat.le_of_eq HSZ.out) _ _ _
    | cons c r =>
      have e1 : (tx (c :: r)).toList.isEmpty = false := by rw [tx_list]; rfl
      have ea : tx (c :: r) ++ ⟨#[32]⟩ = tx (c :: r ++ [32]) := tx_app (c :: r) [32]
      have hsd : (tx (c :: r)).size ≤ 100000 := by rw [tx_size]; exact HD.out.2
      have HC := Lib.hid (fun W => cutPre_any (c :: r ++ [32]) W)
      by_cases hx : c.toNat = 58 ∧ endB r = true
      · have hr : Trimmed r := HD.out.1.drop 1
        have HT : Hid (∀ W : World, Calls Tryz.prog 115 #[.string (tx ((r ++ [32]).drop 1)), .string ⟨#[32]⟩] W fun e w' => e = .returned (.string (tx (lead r))) ∧ Fresh W w') := fun W => by
          have := trimS_any ((r ++ [32]).drop 1) W (by have := HD.out.2; simp at this ⊢; omega)
          rw [trim_behind r hx.2 hr] at this
          exact this
        rw [pre_rest, pre_cut c r hx, decide_eq_true hx] at HC
        have HE2 : Hid (restE t (c :: r) = (0, some ⟨t, true, lead r⟩)) := if_pos hx
        rw [HE2.out]
        refine Calls.mono (R := fun e w' => e = .returned (.tuple #[.agg #[.string (tx t), .bool true, .string (tx (lead r))], .bool true]) ∧ Fresh w w') ?_ (fun e w' k => ⟨fun h => absurd rfl h, fun _ => k.1, k.2⟩)
        clear HE2 hx hr HD HR
        generalize tx (c :: r) = sd at *
        generalize tx t = st at *
        generalize tx (c :: r ++ [32]) = s2 at *
        generalize tx ((r ++ [32]).drop 1) = s3 at *
        generalize tx (lead r) = s4 at *
        go_enter Tryz.func114, Tryz.ntmps114
        go_wp2_with fail
        generalize w.alloc (.cells #[.string ⟨#[]⟩, .bool false, .string ⟨#[]⟩] 138 (0, 0)) = w0 at *
        generalize hsz : w.heap.size = sz at *
        have HSZ := Lib.hid hsz
        clear hsz
        refine (HU1.out _ HF0.out).mono ?_
        rintro e w1 ⟨rfl, hf⟩
        have HF1 := Lib.hid hf
        clear hf
        go_wp2_with (go_at_call 139; refine (HC.out _).mono ?_; rintro e w2 ⟨rfl, rfl⟩)
        go_wp2_with fail
        refine (HT.out _).mono ?_
        rintro e w2 ⟨rfl, hf⟩
        obtain ⟨c0, c1, c2, f0, f1, f2, lt⟩ := ((HB.out.move HF1.out).move hf).facts
        have HF2 := Lib.hid (HF1.out.trans hf)
        clear hf
        go_wp2
        refine bodyPost_ret (v := .tuple #[.agg #[.string st, .bool true, .string s4], .bool true]) (by simp [results, Tryz.results114, go_sem, *]) rfl ⟨rfl, ?_⟩
        exact set3_fresh HF0.out HF2.out (Nat.le_of_eq HSZ.out) _ _ _
      · have HE2 : Hid (restE t (c :: r) = (6, none)) := if_neg hx
        have HW : Hid (∀ W : World, Fresh w W → Calls Tryz.prog 54 #[.pointer (some ⟨b, 0, none⟩), .int .i64 6] W fun e w' => e = .returned (misV line 6) ∧ Fresh W w') := fun W f => wrong_any b R line 6 W (HR.out.move f)
        rw [pre_rest, decide_eq_false hx] at HC
        rw [HE2.out]
        refine Calls.mono (R := fun e w' => Panics line 6 e ∧ Fresh w w') ?_ (fun e w' k => ⟨fun _ => k.1, fun h => absurd h (by decide), k.2⟩)
        clear HE2 hx HD HR HB
        generalize tx (c :: r) = sd at *
        generalize tx t = st at *
        generalize tx (c :: r ++ [32]) = s2 at *
        generalize tx (Lib.trimPrefix (c :: r ++ [32]) [58, 32]) = s3 at *
        go_enter Tryz.func114, Tryz.ntmps114
        go_wp2_with fail
        refine (HU1.out _ HF0.out).mono ?_
        rintro e w1 ⟨rfl, hf⟩
        have HF1 := Lib.hid (HF0.out.trans hf)
        clear hf
        go_wp2_with (first | (go_at_call 139; refine (HC.out _).mono ?_; rintro e w2 ⟨rfl, rfl⟩) | (go_at_call 54; refine (HW.out _ HF1.out).mono ?_; rintro e w2 ⟨rfl, hf⟩; have HF2 := Lib.hid hf; clear hf))
        exact ⟨rfl, rfl, HF1.out.trans HF2.out⟩
  · have HE := Lib.hid (entM_bad q hc)
    have HU1 : Hid (∀ W : World, Fresh w W → Calls Tryz.prog 138 #[.pointer (some ⟨b, 0, none⟩), .string (tx (34 :: q))] W fun e w' => Panics line (unqF (34 :: q)).2.2 e ∧ Fresh W w') :=
      fun W f => (HU.out W f).mono fun e w' k => by rw [if_pos hc] at k; exact k
    rw [HE.out]
    refine Calls.mono (R := fun e w' => Panics line (unqF (34 :: q)).2.2 e ∧ Fresh w w') ?_ (fun e w' k => ⟨fun _ => k.1, fun h => absurd h hc, k.2⟩)
    have HF0 := Lib.hid ((Fresh.refl w).alloc (.cells #[.string ⟨#[]⟩, .bool false, .string ⟨#[]⟩] 138 (0, 0)))
    clear HU h hE hq ht hc HE HD HR
    generalize (unqF (34 :: q)).2.2 = x at *
    generalize tx (34 :: q) = s at *
    go_enter Tryz.func114, Tryz.ntmps114
    go_wp2_with fail
    refine (HU1.out _ HF0.out).mono ?_
    rintro e w1 ⟨hp, hf⟩
    have HF1 := Lib.hid (HF0.out.trans hf)
    clear hf
    unfold Panics at hp
    subst hp
    go_wp2
    exact ⟨rfl, rfl, HF1.out⟩
end Go.Proofs.YthhdadfnkdjmkaaGreatDoor.y
namespace Go.Proofs.YthhdadfnkdjmkaaGreatDoor.y
open Go.ChangeShapes Go.WideShapes Go.ChangeAt Go.RowKit
attribute [local go_sem ↓] Go.wp_at_zero Go.wp_at_succ
variable {w : World}
theorem is34 (c : UInt8) : c = 34 ↔ c.toNat = 34 := u8_iff c 34 (by decide)
theorem entM_p (c : UInt8) (r : List UInt8) (h : c.toNat ≠ 34) : entM (c :: r) = match colon (c :: r) with
    | none => (0, none)
    | some i => (0, some ⟨(c :: r).take i, false, lead ((c :: r).drop (i + 1))⟩) := by
  rw [entM, if_neg (by simp only [List.head?_cons, Option.some.injEq]; rw [is34]; exact h)]
  cases colon (c :: r) <;> rfl
set_option maxHeartbeats 1000000 in
theorem entry_any (b : Nat) (R : List Rw) (line : Nat) (l : List UInt8) (w : World) (h : Rdr w b R line) (hE : Env w) (hne : l ≠ []) (hl : l.length ≤ 90000) (ht : Trimmed l) :
    Calls Tryz.prog 84 #[.pointer (some ⟨b, 0, none⟩), .string (tx l)] w (EntIs w line (entM l)) := by
  obtain ⟨c, r, rfl⟩ : ∃ c r, l = c :: r := by
    cases l with
    | nil => exact absurd rfl hne
    | cons c r => exact ⟨c, r, rfl⟩
  obtain ⟨p1, p2, p3, p4⟩ : Cons (tx (c :: r)) c (tx r) := bs_cons c r
  have HB := Lib.hid (EBox.new w)
  have HF0 := Lib.hid ((Fresh.refl w).alloc (.cells #[.string ⟨#[]⟩, .bool false, .string ⟨#[]⟩] 138 (0, 0)))
  have hsd : (tx (c :: r)).size ≤ 100000 := by rw [tx_size]; omega
  clear p3 p4
  by_cases h34 : c.toNat = 34
  · obtain rfl := (is34 c).2 h34
    have HQ : Hid (∀ W : World, Fresh w W → Calls Tryz.prog 114 #[.pointer (some ⟨b, 0, none⟩), .string (tx (34 :: r))] W (EntIs W line (entM (34 :: r)))) := fun W f => quotedEntry_any b R line r W (h.move f) (hE.move f) (by simp at hl; omega) ht
    unfold EntIs at *
    clear h hE hne hl ht h34
    generalize entM (34 :: r) = x at *
    obtain ⟨k, o⟩ := x
    dsimp only at *
    generalize tx (34 :: r) = s at *
    by_cases hk : k = 0
    · have HQ1 : Hid (∀ W : World, Fresh w W → Calls Tryz.prog 114 #[.pointer (some ⟨b, 0, none⟩), .string s] W fun e w' => e = .returned (.tuple #[optV o, .bool o.isSome]) ∧ Fresh W w') := fun W f => (HQ.out W f).mono fun e w' k => ⟨k.2.1 hk, k.2.2⟩
      refine Calls.mono (R := fun e w' => e = .returned (.tuple #[optV o, .bool o.isSome]) ∧ Fresh w w') ?_ (fun e w' k => ⟨fun h => absurd hk h, fun _ => k.1, k.2⟩)
      clear HQ
      obtain ⟨a, q, bh, hv⟩ : ∃ (a : ByteArray) (q : Bool) (bh : ByteArray), optV o = .agg #[.string a, .bool q, .string bh] := by
        cases o with
        | none => exact ⟨_, _, _, rfl⟩
        | some n => exact ⟨_, _, _, rfl⟩
      rw [hv] at HQ1 ⊢
      generalize o.isSome = ob at *
      clear hv hk
      go_enter Tryz.func84, Tryz.ntmps84
      go_wp2_with fail
      generalize w.alloc (.cells #[.string ⟨#[]⟩, .bool false, .string ⟨#[]⟩] 138 (0, 0)) = w0 at *
      generalize hsz : w.heap.size = sz at *
      have HSZ := Lib.hid hsz
      clear hsz
      refine (HQ1.out _ HF0.out).mono ?_
      rintro e w1 ⟨rfl, hf⟩
      obtain ⟨c0, c1, c2, f0, f1, f2, lt⟩ := (HB.out.move hf).facts
      have HF := Lib.hid hf
      clear hf
      go_wp2
      refine bodyPost_ret (v := .tuple #[.agg #[.string a, .bool q, .string bh], .bool ob]) (by simp [results, Tryz.results84, go_sem, *]) rfl ⟨rfl, ?_⟩
      exact set3_fresh HF0.out HF.out (Nat.le_of_eq HSZ.out) _ _ _
    · have HQ1 : Hid (∀ W : World, Fresh w W → Calls Tryz.prog 114 #[.pointer (some ⟨b, 0, none⟩), .string s] W fun e w' => Panics line k e ∧ Fresh W w') := fun W f => (HQ.out W f).mono fun e w' k => ⟨k.1 hk, k.2.2⟩
      refine Calls.mono (R := fun e w' => Panics line k e ∧ Fresh w w') ?_ (fun e w' k => ⟨fun _ => k.1, fun h => absurd h hk, k.2⟩)
      clear HQ hk
      go_enter Tryz.func84, Tryz.ntmps84
      go_wp2_with fail
      refine (HQ1.out _ HF0.out).mono ?_
      rintro e w1 ⟨hp, hf⟩
      have HF1 := Lib.hid (HF0.out.trans hf)
      clear hf
      unfold Panics at hp
      subst hp
      go_wp2
      exact ⟨rfl, rfl, HF1.out⟩
  · have hne34 : ((c.toNat : Int) == 34) = false := by simp; omega
    have ea : tx (c :: r) ++ ⟨#[32]⟩ = tx (c :: r ++ [32]) := tx_app (c :: r) [32]
    have HC : Hid (∀ W : World, Fresh w W → Calls Tryz.prog 77 #[.string (tx (c :: r ++ [32])), .string ⟨#[58, 32]⟩] W fun e w' => e = .returned (.tuple #[.string (tx (Lib.cut (c :: r ++ [32]) [58, 32]).1), .string (tx (Lib.cut (c :: r ++ [32]) [58, 32]).2.1), .bool (Lib.cut (c :: r ++ [32]) [58, 32]).2.2]) ∧ Fresh W w') := fun W f => cutS_any2 _ W (by simp at hl ⊢; omega) (hE.move f)
    have HE := Lib.hid (entM_p c r h34)
    rw [HE.out]
    clear h34 HE hE h
    cases hcol : colon (c :: r) with
    | none =>
      rw [cut_none _ hcol] at HC
      dsimp only
      refine Calls.mono (R := fun e w' => e = .returned (.tuple #[entZ, .bool false]) ∧ Fresh w w') ?_ (fun e w' k => ⟨fun h => absurd rfl h, fun _ => k.1, k.2⟩)
      clear hcol ht hne hl
      generalize tx (Lib.cut (c :: r ++ [32]) [58, 32]).1 = s3 at *
      generalize tx (Lib.cut (c :: r ++ [32]) [58, 32]).2.1 = s4 at *
      generalize tx (c :: r ++ [32]) = s2 at *
      generalize tx (c :: r) = s at *
      go_enter Tryz.func84, Tryz.ntmps84
      go_wp2_with fail
      generalize w.alloc (.cells #[.string ⟨#[]⟩, .bool false, .string ⟨#[]⟩] 138 (0, 0)) = w0 at *
      generalize hsz : w.heap.size = sz at *
      have HSZ := Lib.hid hsz
      clear hsz
      refine (HC.out _ HF0.out).mono ?_
      rintro e w1 ⟨rfl, hf⟩
      obtain ⟨c0, c1, c2, f0, f1, f2, lt⟩ := (HB.out.move hf).facts
      have HF := Lib.hid hf
      clear hf
      go_wp2
      refine bodyPost_ret (v := .tuple #[entZ, .bool false]) (by simp [results, Tryz.results84, go_sem, *]) rfl ⟨rfl, ?_⟩
      exact set3_fresh HF0.out HF.out (Nat.le_of_eq HSZ.out) _ _ _
    | some i =>
      obtain ⟨hi, hend⟩ := colon_some _ _ hcol
      have hr : Trimmed ((c :: r).drop (i + 1)) := ht.drop _
      have HT : Hid (∀ W : World, Calls Tryz.prog 115 #[.string (tx (((c :: r).drop (i + 1) ++ [32]).drop 1)), .string ⟨#[32]⟩] W fun e w' => e = .returned (.string (tx (lead ((c :: r).drop (i + 1))))) ∧ Fresh W w') := fun W => by
        have := trimS_any (((c :: r).drop (i + 1) ++ [32]).drop 1) W (by simp at hl ⊢; omega)
        rw [trim_behind _ hend hr] at this
        exact this
      rw [cut_some _ _ hcol] at HC
      dsimp only at HC ⊢
      refine Calls.mono (R := fun e w' => e = .returned (.tuple #[.agg #[.string (tx ((c :: r).take i)), .bool false, .string (tx (lead ((c :: r).drop (i + 1))))], .bool true]) ∧ Fresh w w') ?_ (fun e w' k => ⟨fun h => absurd rfl h, fun _ => k.1, k.2⟩)
      clear hr hend hi hcol ht hne hl
      generalize tx (((c :: r).drop (i + 1) ++ [32]).drop 1) = s3 at *
      generalize tx (lead ((c :: r).drop (i + 1))) = s4 at *
      generalize tx ((c :: r).take i) = s5 at *
      generalize tx (c :: r ++ [32]) = s2 at *
      generalize tx (c :: r) = s at *
      go_enter Tryz.func84, Tryz.ntmps84
      go_wp2_with fail
      generalize w.alloc (.cells #[.string ⟨#[]⟩, .bool false, .string ⟨#[]⟩] 138 (0, 0)) = w0 at *
      generalize hsz : w.heap.size = sz at *
      have HSZ := Lib.hid hsz
      clear hsz
      refine (HC.out _ HF0.out).mono ?_
      rintro e w1 ⟨rfl, hf⟩
      have HF1 := Lib.hid hf
      clear hf
      go_wp2_with fail
      refine (HT.out _).mono ?_
      rintro e w2 ⟨rfl, hf⟩
      obtain ⟨c0, c1, c2, f0, f1, f2, lt⟩ := ((HB.out.move HF1.out).move hf).facts
      have HF2 := Lib.hid (HF1.out.trans hf)
      clear hf
      go_wp2
      refine bodyPost_ret (v := .tuple #[.agg #[.string s5, .bool false, .string s4], .bool true]) (by simp [results, Tryz.results84, go_sem, *]) rfl ⟨rfl, ?_⟩
      exact set3_fresh HF0.out HF2.out (Nat.le_of_eq HSZ.out) _ _ _
end Go.Proofs.YthhdadfnkdjmkaaGreatDoor.y
namespace Go.Proofs.YthhdadfnkdjmkaaGreatDoor.v
section
variable {P : Program} {ops : Array Oper} {Q : Exit → Act → World → Prop} {md : Region.Mode} {S : World → Prop} {tail : Nat → Bool}

/-- Whatever order is picked; behind each operation that isn't of the tail S holds. -/
def Any2 (P : Program) (md : Region.Mode) (ops : Array Oper) (Q : Exit → Act → World → Prop) (S : World → Prop) (tail : Nat → Bool) : Nat → Array Bool → Act → World → Prop
  | 0, done, a, w => Region.ready md ops done = [] ∧ Q .normal a w
  | f + 1, done, a, w => (Region.ready md ops done = [] → Q .normal a w) ∧
      ∀ k, k ∈ Region.ready md ops done → wpOp P ops Q k (fun b u => (tail k = false → S u) ∧ Any2 P md ops Q S tail f (done.setIfInBounds k true) b u) a w
theorem Any2.any : ∀ (f : Nat) (done : Array Bool) (a : Act) (w : World), Any2 P md ops Q S tail f done a w → wpAny P md ops Q f done a w
  | 0, _, _, _, h => h
  | f + 1, _, _, _, ⟨h0, h1⟩ => ⟨h0, fun k hk => wpOp_mono (fun b u h => Any2.any f _ b u h.2) (h1 k hk)⟩
theorem Any2.start {id : Nat} {a : Act} {w : World} (hm : P.follows .mixedOrders = true) (h : Any2 P .any ops Q S tail ops.size (Array.replicate ops.size false) a w.drew) : (Code.region id ops true).wp P Q a w :=
  wp_region_any hm (Any2.any _ _ _ _ h)
/-- What came up already had all that it waits for. -/
def Closed (md : Region.Mode) (ops : Array Oper) (done : Array Bool) : Prop := ∀ k o, ops[k]? = some o → done.getD k false = true → ∀ e ∈ o.after, Region.binds md e = true → done.getD e.on false = true
def closedB (md : Region.Mode) (ops : Array Oper) (done : Array Bool) : Bool :=
  (List.range ops.size).all fun k => !done.getD k false || ((ops[k]?).map fun o => o.after.all fun e => !Region.binds md e || done.getD e.on false).getD true
theorem closed_of {done : Array Bool} (h : closedB md ops done = true) : Closed md ops done := by
  intro k o hk hd e he hb
  have hlt : k < ops.size := (Array.getElem?_eq_some_iff.1 hk).1
  have h1 := List.all_eq_true.1 h k (List.mem_range.2 hlt)
  rw [hd, hk] at h1
  simp only [Bool.not_true, Bool.false_or, Option.map_some, Option.getD_some] at h1
  have h2 := (Array.all_eq_true_iff_forall_mem.1 h1) e he
  rw [hb] at h2
  simpa using h2
theorem Closed.set {done : Array Bool} {j : Nat} (h : Closed md ops done) (hj : j ∈ Region.ready md ops done) : Closed md ops (done.setIfInBounds j true) := by
  obtain ⟨_, oj, hoj, hall⟩ := mem_ready.1 hj
  intro k o hk hd e he hb
  by_cases hkj : j = k
  · subst hkj
    rw [hoj] at hk
    cases hk
    exact getD_set_true (hall e he hb)
  · rw [getD_set_ne false hkj] at hd
    exact getD_set_true (h k o hk hd e he hb)
/-- Operation j waits for operation k, or for one that does. -/
def waits (md : Region.Mode) (ops : Array Oper) : Nat → Nat → Nat → Bool
  | 0, _, _ => false
  | n + 1, j, k => ((ops[j]?).map fun o => o.after.any fun e => Region.binds md e && (e.on == k || waits md ops n e.on k)).getD false
theorem waits_spec {k : Nat} {done : Array Bool} (hc : Closed md ops done) : ∀ (n j : Nat) (oj : Oper), waits md ops n j k = true → ops[j]? = some oj → (∀ e ∈ oj.after, Region.binds md e = true → done.getD e.on false = true) → done.getD k false = true
  | 0, _, _, h, _, _ => by cases h
  | n + 1, j, oj, h, hj, hall => by
    rw [waits, hj] at h
    simp only [Option.map_some, Option.getD_some] at h
    obtain ⟨e, he, hb⟩ := Array.any_eq_true'.1 h
    rw [Bool.and_eq_true, Bool.or_eq_true, beq_iff_eq] at hb
    have h2 := hall e he hb.1
    rcases hb.2 with h3 | h3
    · rw [← h3]; exact h2
    · cases hp : ops[e.on]? with
      | none =>
        cases n with
        | zero => cases h3
        | succ n => rw [waits, hp] at h3; cases h3
      | some p => exact waits_spec hc n e.on p h3 hp (fun e2 he2 hb2 => hc e.on p hp h2 e2 he2 hb2)
/-- Each of the tail waits for operation k. -/
def behind (md : Region.Mode) (ops : Array Oper) (tail : Nat → Bool) (k : Nat) : Bool :=
  (List.range ops.size).all fun j => !tail j || waits md ops 6 j k
theorem behind_spec {k j : Nat} {oj : Oper} {done : Array Bool} (h : behind md ops tail k = true) (hc : Closed md ops done) (hj : ops[j]? = some oj) (ht : tail j = true) (hall : ∀ e ∈ oj.after, Region.binds md e = true → done.getD e.on false = true) : done.getD k false = true := by
  have hlt : j < ops.size := (Array.getElem?_eq_some_iff.1 hj).1
  have h1 := List.all_eq_true.1 h j (List.mem_range.2 hlt)
  rw [ht] at h1
  exact waits_spec hc 6 j oj (by simpa using h1) hj hall
theorem Any2.first {i : Nat} {oi : Oper} {v : Value} (hi : ops[i]? = some oi) (hsel : ∀ (j : Nat) (o : Oper) cs b, ops[j]? = some o → o.op ≠ .select cs b)
    (hQ : ∀ c a w, Q (.panic c) (a.put oi.dst v) w → Q (.panic c) a w) (ht : tail i = false) (hb : behind md ops tail i = true) :
    ∀ (f : Nat) (done : Array Bool) (a : Act) (w : World),
      (∀ j oj, ops[j]? = some oj → j ≠ i → done.getD j true = false → (∀ e ∈ oj.after, Region.binds md e = true → e.on ≠ i) → oi.apart ops oj = true) →
      Closed md ops done → i ∈ Region.ready md ops done → YieldsIf P ops S oi v a → S w →
      Any2 P md ops Q S tail f (done.setIfInBounds i true) (a.put oi.dst v) w → Any2 P md ops Q S tail (f + 1) done a w := by
  intro f
  induction f with
  | zero =>
    intro done a w _ _ hr hy hS H
    refine ⟨fun h => absurd hr (by rw [h]; exact List.not_mem_nil), fun j hj => ?_⟩
    by_cases e : j = i
    · subst e; exact hy.wpOp hi hS ⟨fun _ => hS, H⟩
    · have := ready_mono hj e
      rw [H.1] at this
      cases this
  | succ f ih =>
    intro done a w hfree hcl hr hy hS H
    refine ⟨fun h => absurd hr (by rw [h]; exact List.not_mem_nil), fun j hj => ?_⟩
    by_cases e : j = i
    · subst e; exact hy.wpOp hi hS ⟨fun _ => hS, H⟩
    obtain ⟨hjun, oj, hoj, hall⟩ := mem_ready.1 hj
    have hi0 := (mem_ready.1 hr).1
    have hnot : ∀ e ∈ oj.after, Region.binds md e = true → e.on ≠ i := fun e he hbe heq => by
      have h1 := hall e he hbe
      rw [heq] at h1
      rcases Nat.lt_or_ge i done.size with h2 | h2
      · simp [h2] at hi0 h1; rw [hi0] at h1; cases h1
      · simp [Array.getElem?_eq_none h2] at h1
    have htj : tail j = false := by
      cases htj : tail j with
      | false => rfl
      | true =>
        have h1 := behind_spec hb hcl hoj htj hall
        rcases Nat.lt_or_ge i done.size with h2 | h2
        · simp [h2] at hi0 h1; rw [hi0] at h1; cases h1
        · simp [Array.getElem?_eq_none h2] at h1
    have h2 := wpOp_putIf hoj (hfree j oj hoj e hjun hnot) (fun cs b => hsel i oi cs b hi) (fun cs b => hsel j oj cs b hoj) hQ hy (H.2 j (ready_mono hj e))
    have hfree' : ∀ k ok, ops[k]? = some ok → k ≠ i → (done.setIfInBounds j true).getD k true = false → (∀ e ∈ ok.after, Region.binds md e = true → e.on ≠ i) → oi.apart ops ok = true := fun k ok hk hki hun hno => by
      refine hfree k ok hk hki ?_ hno
      by_cases hjk : j = k
      · subst hjk; exact hjun
      · rw [getD_set_ne true hjk] at hun; exact hun
    refine wpOp_mono (fun b u h3 => ?_) h2
    obtain ⟨hy', hS', h4⟩ := h3
    refine ⟨hS', ih (done.setIfInBounds j true) b u hfree' (hcl.set hj) (ready_mono hr (Ne.symm e)) hy' (hS' htj) ?_⟩
    rw [Array.setIfInBounds_comm _ _ e]
    exact h4
/-- Operation i is taken first. -/
theorem Any2.take {i : Nat} {oi : Oper} {v : Value} {f : Nat} {done : Array Bool} {a : Act} {w : World} (hi : ops[i]? = some oi) (hs : Region.noSelect ops = true) (hf : Region.free md ops done i = true) (hr : (Region.ready md ops done).contains i = true)
    (ht : tail i = false) (hb : behind md ops tail i = true) (hcl : closedB md ops done = true) (hQ : ∀ c a w, Q (.panic c) (a.put oi.dst v) w → Q (.panic c) a w) (hS : S w) (hy : YieldsIf P ops S oi v a)
    (h : Any2 P md ops Q S tail f (done.setIfInBounds i true) (a.put oi.dst v) w) : Any2 P md ops Q S tail (f + 1) done a w :=
  Any2.first hi (Region.noSelect_spec hs) hQ ht hb f done a w (Region.free_spec hi hf) (closed_of hcl) (by simpa using hr) hy hS h
/-- One alone may come up. -/
theorem Any2.one {i : Nat} {f : Nat} {done : Array Bool} {a : Act} {w : World} (hr : Region.ready md ops done = [i])
    (h : wpOp P ops Q i (fun b u => (tail i = false → S u) ∧ Any2 P md ops Q S tail f (done.setIfInBounds i true) b u) a w) : Any2 P md ops Q S tail (f + 1) done a w := by
  refine ⟨(fun e => by rw [hr] at e; cases e), fun k hk => ?_⟩
  rw [hr] at hk
  obtain rfl := List.mem_singleton.1 hk
  exact h
theorem Any2.end {f : Nat} {done : Array Bool} {a : Act} {w : World} (hr : Region.ready md ops done = []) (h : Q .normal a w) : Any2 P md ops Q S tail f done a w := by
  cases f with
  | zero => exact ⟨hr, h⟩
  | succ f => exact ⟨fun _ => h, fun k hk => by rw [hr] at hk; cases hk⟩
/-- An operation without a guard. -/
theorem wpOp_of {i : Nat} {o : Oper} {K : Act → World → Prop} {a : Act} {w : World} (hi : ops[i]? = some o) (hg : o.guard = none) (h : o.wp P a w K Q) : wpOp P ops Q i K a w := by
  unfold wpOp
  simp only [hi]
  rw [if_pos (by simp [Region.wanted, hg])]
  exact .inl h
/-- TWO CHAINS, in whatever order: what holds at each place of the grid. -/
theorem Any2.grid (I : Nat → Nat → Act → World → Prop) (x y : Nat → Nat) (m n : Nat) (D : Nat → Nat → Array Bool)
    (hR : ∀ i j, i ≤ m → j ≤ n → i < m ∨ j < n → Region.ready md ops (D i j) ≠ [] ∧ ∀ k, k ∈ Region.ready md ops (D i j) → (i < m ∧ k = x i ∧ (D i j).setIfInBounds k true = D (i + 1) j) ∨ (j < n ∧ k = y j ∧ (D i j).setIfInBounds k true = D i (j + 1)))
    (hx : ∀ i j a w, i < m → j ≤ n → I i j a w → wpOp P ops Q (x i) (fun b u => S u ∧ I (i + 1) j b u) a w)
    (hy : ∀ i j a w, i ≤ m → j < n → y j ∈ Region.ready md ops (D i j) → I i j a w → wpOp P ops Q (y j) (fun b u => S u ∧ I i (j + 1) b u) a w)
    (f : Nat) (he : ∀ a w, I m n a w → Any2 P md ops Q S tail f (D m n) a w) :
    ∀ (d i j : Nat) (a : Act) (w : World), i ≤ m → j ≤ n → (m - i) + (n - j) = d → I i j a w → Any2 P md ops Q S tail (f + d) (D i j) a w := by
  intro d
  induction d with
  | zero =>
    intro i j a w hi hj hd h
    obtain rfl : i = m := by omega
    obtain rfl : j = n := by omega
    exact he a w h
  | succ d ih =>
    intro i j a w hi hj hd h
    obtain ⟨h1, h2⟩ := hR i j hi hj (by omega)
    refine ⟨fun e => absurd e h1, fun k hk => ?_⟩
    rcases h2 k hk with ⟨hlt, rfl, e⟩ | ⟨hlt, rfl, e⟩
    · refine wpOp_mono (fun b u h3 => ⟨fun _ => h3.1, ?_⟩) (hx i j a w hlt hj h)
      rw [e]
      exact ih (i + 1) j b u (by omega) hj (by omega) h3.2
    · refine wpOp_mono (fun b u h3 => ⟨fun _ => h3.1, ?_⟩) (hy i j a w hi hlt hk h)
      rw [e]
      exact ih i (j + 1) b u hi (by omega) (by omega) h3.2
/-- That such a grid is one, as a test. -/
def gridB (md : Region.Mode) (ops : Array Oper) (x y : Nat → Nat) (m n : Nat) (D : Nat → Nat → Array Bool) : Bool :=
  (List.range (m + 1)).all fun i => (List.range (n + 1)).all fun j => (i == m && j == n) || (!(Region.ready md ops (D i j)).isEmpty && (Region.ready md ops (D i j)).all fun k =>
    (decide (i < m) && k == x i && (D i j).setIfInBounds k true == D (i + 1) j) || (decide (j < n) && k == y j && (D i j).setIfInBounds k true == D i (j + 1)))
theorem grid_of {x y : Nat → Nat} {m n : Nat} {D : Nat → Nat → Array Bool} (h : gridB md ops x y m n D = true) :
    ∀ i j, i ≤ m → j ≤ n → i < m ∨ j < n → Region.ready md ops (D i j) ≠ [] ∧ ∀ k, k ∈ Region.ready md ops (D i j) → (i < m ∧ k = x i ∧ (D i j).setIfInBounds k true = D (i + 1) j) ∨ (j < n ∧ k = y j ∧ (D i j).setIfInBounds k true = D i (j + 1)) := by
  intro i j hi hj hlt
  have h1 := List.all_eq_true.1 (List.all_eq_true.1 h i (List.mem_range.2 (by omega))) j (List.mem_range.2 (by omega))
  rw [Bool.or_eq_true] at h1
  rcases h1 with h1 | h1
  · rw [Bool.and_eq_true, beq_iff_eq, beq_iff_eq] at h1
    omega
  · rw [Bool.and_eq_true, Bool.not_eq_true'] at h1
    refine ⟨fun e => by rw [e] at h1; simp at h1, fun k hk => ?_⟩
    have h2 := List.all_eq_true.1 h1.2 k hk
    simp only [Bool.or_eq_true, Bool.and_eq_true, decide_eq_true_eq, beq_iff_eq] at h2
    rcases h2 with ⟨⟨a, b⟩, c⟩ | ⟨⟨a, b⟩, c⟩
    · exact .inl ⟨a, b, c⟩
    · exact .inr ⟨a, b, c⟩
/-! ### frames -/
theorem ev_same {a : Act} {d : Nat} {v : Value} (h : d < a.tmps.size) : (a.put (some d) v).eval (.tmp d) = v := by
  simp [Act.put, Act.eval, h]
theorem ev_ne {a : Act} {d t : Nat} {v : Value} (h : d ≠ t) : (a.put (some d) v).eval (.tmp t) = a.eval (.tmp t) := by
  simp [Act.put, Act.eval, Array.getD_eq_getD_getElem?, h]
theorem put_size {a : Act} {d : Option Nat} {v : Value} : (a.put d v).tmps.size = a.tmps.size := by
  cases d <;> simp [Act.put]
theorem put_swap {a : Act} {d e : Nat} {v u : Value} (h : d ≠ e) : (a.put (some d) v).put (some e) u = (a.put (some e) u).put (some d) v :=
  Act.put_comm a v u (fun k hk e2 => h (by cases hk; cases e2; rfl))
end
end Go.Proofs.YthhdadfnkdjmkaaGreatDoor.v
namespace Go.Proofs.YthhdadfnkdjmkaaGreatDoor.v
open Go.ChangeShapes Go.WideShapes Go.ChangeAt Go.RowKit
variable {Q : Exit → Act → World → Prop}
theorem own_block {a : Option Addr} {n c k : Nat} (h : (Value.slice a n c).ownBlock = some k) : ∃ ad : Addr, a = some ad ∧ ad.block = k := by
  cases a with
  | none => cases h
  | some ad => exact ⟨ad, rfl, by simpa [Value.ownBlock] using h⟩
theorem own_type {w : World} {B : Nat} {t : TypeId} {k n m c : Nat} {a : Option Addr} {xs : List Value} (h : w.ownsRow B t k (.slice a m c) n xs) : ∀ ad : Addr, a = some ad → B ≤ ad.block ∧ ad.block < w.heap.size ∧ ∃ cur, w.heap[ad.block]? = some (.cells cur t (0, 0)) := by
  intro ad e
  subst e
  have hlt := h.lt ad.block rfl
  rcases h.2 with ⟨e, _⟩ | ⟨g, cap, cur, e, _, hh, _⟩
  · cases e
  · cases e
    exact ⟨hlt.1, hlt.2, cur, hh⟩
theorem own_parted {w : World} {B B' : Nat} {t t' : TypeId} {k k' n n' m m' c c' : Nat} {a a' : Option Addr} {xs ys : List Value} (h : w.ownsRow B t k (.slice a m c) n xs) (h' : w.ownsRow B' t' k' (.slice a' m' c') n' ys) (ht : t ≠ t') (u v : Addr) (hu : a = some u) (hv : a' = some v) : u.block ≠ v.block := by
  obtain ⟨_, _, cur, h1⟩ := own_type h u hu
  obtain ⟨_, _, cur', h2⟩ := own_type h' v hv
  intro e
  rw [e, h2] at h1
  injection h1 with h1
  injection h1 with _ h1 _
  exact ht h1.symm
theorem kept_row {w w' : World} {B : Nat} {t : TypeId} {k n m c : Nat} {a : Option Addr} {xs : List Value} {r : Option Nat} (h : w.ownsRow B t k (.slice a m c) n xs) (g : w.grownBy w' r) (hne : ∀ ad : Addr, a = some ad → some ad.block ≠ r) : w'.ownsRow B t k (.slice a m c) n xs :=
  h.kept g (by
    cases a with
    | none => exact .inl rfl
    | some ad => exact .inr (hne ad rfl))
theorem grown_at {W w' : World} {a : Option Addr} {n c b : Nat} {o : Obj} (hg : W.grownBy w' (Value.slice a n c).ownBlock) (hb : W.heap[b]? = some o) (hne : ∀ ad : Addr, a = some ad → ad.block ≠ b) : w'.heap[b]? = some o :=
  (hg.block b (lt_of_at hb) (fun e => by
    obtain ⟨ad, e1, e2⟩ := own_block e.symm
    exact hne ad e1 e2)).trans hb
theorem RowAt.cells {w w' : World} {a : Option Addr} {cs : List Value} (h : RowAt w a cs) (hc : ∀ g j x, w.cell? ⟨g, j, Option.none⟩ = some x → w'.cell? ⟨g, j, Option.none⟩ = some x) : RowAt w' a cs := by
  rcases h with h | ⟨g, e, h⟩
  · exact .inl h
  · exact .inr ⟨g, e, fun j x hj => hc g j x (h j x hj)⟩
theorem M.At.cells {w w' : World} {m : M} (h : m.At w) (hc : ∀ g j x, w.cell? ⟨g, j, none⟩ = some x → w'.cell? ⟨g, j, none⟩ = some x) : m.At w' := by
  induction h with
  | mk hs hl hk ll lk hn ml mk ihl ihk => exact .mk hs (hl.cells hc) (hk.cells hc) ll lk hn ihl ihk
theorem box_frozen {w : World} {b : Nat} {c0 c1 c2 c3 c4 c5 : Value} {T : TypeId} (h : w.heap[b]? = some (.cells #[c0, c1, c2, c3, c4, c5] T (0, 0))) : w.frozen? ⟨b, 4, none⟩ = false ∧ w.frozen? ⟨b, 5, none⟩ = false := by
  simp [World.frozen?, h]
theorem wpOp_run {P : Program} {ops : Array Oper} {i : Nat} {o : Oper} {K : Act → World → Prop} {b : Act} {w w' : World} {v : Value} (hi : ops[i]? = some o) (hg : o.guard = none) (hr : (execOp b.eval o).run P w = .ok (.value v) w') (h : K (b.put o.dst v) w') : wpOp P ops Q i K b w := by
  refine wpOp_of hi hg ?_
  unfold Oper.wp
  rw [hr]
  exact h
theorem ev_get {a : Act} {t : Nat} {v : Value} (h : a.eval (.tmp t) = v) : a.tmps[t]?.getD undef = v := by
  rw [← h]; simp [Act.eval]
theorem type_ne {w : World} {b b' : Nat} {cs ds : Array Value} {t t' : TypeId} (h : w.heap[b]? = some (.cells cs t (0, 0))) (h' : w.heap[b']? = some (.cells ds t' (0, 0))) (hn : t ≠ t') : b ≠ b' := by
  intro e
  rw [e, h'] at h
  injection h with h
  injection h with _ h _
  exact hn h.symm
theorem kept_other {w w' : World} {B : Nat} {t t' : TypeId} {k n m c b : Nat} {a : Option Addr} {xs : List Value} {cs : Array Value} (h : w.ownsRow B t k (.slice a m c) n xs) (hg : w.grownBy w' (Value.slice a m c).ownBlock) (hb : w.heap[b]? = some (.cells cs t' (0, 0))) (ht : t ≠ t') : w'.heap[b]? = some (.cells cs t' (0, 0)) :=
  grown_at hg hb (fun ad e => by obtain ⟨_, _, cur, h3⟩ := own_type h ad e; exact type_ne h3 hb ht)
theorem kept_rows {w w' : World} {B B' : Nat} {t t' : TypeId} {k k' n n' m m' c c' : Nat} {a a' : Option Addr} {xs ys : List Value} (h : w.ownsRow B t k (.slice a m c) n xs) (hg : w.grownBy w' (Value.slice a m c).ownBlock) (h' : w.ownsRow B' t' k' (.slice a' m' c') n' ys) (ht : t ≠ t') : w'.ownsRow B' t' k' (.slice a' m' c') n' ys :=
  kept_row h' hg (fun ad e e2 => by
    obtain ⟨ad', e1, e3⟩ := own_block e2.symm
    exact own_parted h h' ht ad' ad e1 e e3)
theorem row_take {w : World} {a : Option Addr} {ms : List M} (h : RowAt w a (mcells ms)) (d : Nat) : RowAt w a (mcells (ms.take d)) := by
  have e : mcells ms = mcells (ms.take d) ++ mcells (ms.drop d) := by
    unfold mcells
    rw [← List.flatMap_append, List.take_append_drop]
  rcases h with ⟨h1, h2⟩ | ⟨g, e1, h⟩
  · rw [h2] at e
    exact .inl ⟨h1, (List.append_eq_nil_iff.1 e.symm).1⟩
  · refine .inr ⟨g, e1, fun j x hj => h j x ?_⟩
    rw [e, List.getElem?_append_left (List.getElem?_eq_some_iff.1 hj).1]
    exact hj
theorem sizeL_append (a b : List V) : sizeL (a ++ b) = sizeL a + sizeL b := by
  induction a with
  | nil => simp [sizeL]
  | cons v a ih => simp only [List.cons_append, sizeL, ih]; omega
theorem wpOp_skip {P : Program} {ops : Array Oper} {i : Nat} {o : Oper} {K : Act → World → Prop} {b : Act} {w w' : World} (hi : ops[i]? = some o) (hg : o.guard = none) (hd : o.dst = none) (hr : (execOp b.eval o).run P w = .ok .skip w') (h : K b w') : wpOp P ops Q i K b w := by
  refine wpOp_of hi hg ?_
  unfold Oper.wp
  rw [hr, Oper.upon_skip, hd]
  exact h
theorem info54 : (Tryz.prog.info? 54).map (fun i => (i.zero.map (fun z => z.cells.size), i.size, i.bytes)) = some (some 7, 7, 104) := by kernel_rfl
theorem info56 : (Tryz.prog.info? 69).map (fun i => (i.zero.map (fun z => z.cells.size), i.size, i.bytes)) = some (some 7, 7, 104) := by kernel_rfl
theorem info_seven {T : TypeId} (h : (Tryz.prog.info? T).map (fun i => (i.zero.map (fun z => z.cells.size), i.size, i.bytes)) = some (some 7, 7, 104)) : ∃ (i : TypeInfo) (z : Value), Tryz.prog.info? T = some i ∧ i.zero = some z ∧ z.cells.size = 7 ∧ i.size = 7 ∧ i.bytes = 104 := by
  obtain ⟨i, hi, hz⟩ := Option.map_eq_some_iff.1 h
  simp only [Prod.mk.injEq] at hz
  obtain ⟨h1, h2, h3⟩ := hz
  obtain ⟨z, hz1, hz2⟩ := Option.map_eq_some_iff.1 h1
  exact ⟨i, z, hi, hz1, hz2, h2, h3⟩
end Go.Proofs.YthhdadfnkdjmkaaGreatDoor.v
