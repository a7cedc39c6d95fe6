/-
  What the small functions of package simfs return: names, steps, finding a file, reading; and the document's answer for names.
-/
import Derived.Test.YtimcoofmemcojaaBase
import Derived.BigGuardPart
namespace Go.Proofs.Ytimcoofmemcojaa
open Go.ChangeShapes Go.WideShapes Go.ChangeAt Go.RowKit

def mayI (n : Int) : Bool := decide (97 ≤ n ∧ n ≤ 122) || decide (48 ≤ n ∧ n ≤ 57) || n == 46 || n == 95 || n == 45 || n == 47
def nameB (s : ByteArray) : Bool := decide (1 ≤ s.size ∧ s.size ≤ 64) && s.data.toList.all fun c => mayI c.toNat
theorem nameB_size {s : ByteArray} (h : nameB s = true) : 1 ≤ s.size ∧ s.size ≤ 64 := by
  unfold nameB at h
  simp only [Bool.and_eq_true, decide_eq_true_eq] at h
  exact h.1
theorem nameB_short {s : ByteArray} (h : s.size < 1 ∨ 64 < s.size) : nameB s = false := by
  unfold nameB
  rw [decide_eq_false (by omega)]; rfl
theorem nameB_bad {s : ByteArray} {k : Nat} (hk : k < s.size) (h : mayI s[k].toNat = false) : nameB s = false := by
  cases e : nameB s with
  | false => rfl
  | true =>
    unfold nameB at e
    simp only [Bool.and_eq_true, List.all_eq_true] at e
    have := e.2 s[k] (by
      have : s[k] = s.data.toList[k]'(by simpa using hk) := rfl
      rw [this]; exact List.getElem_mem _)
    rw [h] at this; cases this
theorem nameB_good {s : ByteArray} (h1 : 1 ≤ s.size) (h2 : s.size ≤ 64) (h : ∀ j (hj : j < s.size), mayI s[j].toNat = true) : nameB s = true := by
  unfold nameB
  rw [decide_eq_true ⟨h1, h2⟩, Bool.true_and, List.all_eq_true]
  intro c hc
  obtain ⟨j, hj, rfl⟩ := List.mem_iff_getElem.1 hc
  exact h j (by simpa using hj)

theorem may_no_cases {n : Int} (h : mayI n = false) : ¬ (97 ≤ n ∧ n ≤ 122) ∧ ¬ (48 ≤ n ∧ n ≤ 57) ∧ n ≠ 46 ∧ n ≠ 95 ∧ n ≠ 45 ∧ n ≠ 47 := by
  simp [mayI] at h; omega
theorem may_yes_cases {n : Int} (h : mayI n = true) : (97 ≤ n ∧ n ≤ 122) ∨ (48 ≤ n ∧ n ≤ 57) ∨ n = 46 ∨ n = 95 ∨ n = 45 ∨ n = 47 := by
  simp [mayI] at h; omega
set_option maxHeartbeats 400000 in
theorem may_yes (n : Int) (w : World) (h : mayI n = true) : Calls Try.prog 49 #[.int .u8 n] w fun e w' => e = .returned (.bool true) ∧ w = w' := by
  rcases may_yes_cases h with ⟨a1, a2⟩ | ⟨a1, a2⟩ | rfl | rfl | rfl | rfl
  all_goals
    clear h
    go_enter Try.func49, Try.ntmps49
    go_wp2
    go_ret
    exact ⟨rfl, rfl⟩
set_option maxHeartbeats 400000 in
theorem may_no (n : Int) (w : World) (h : mayI n = false) : Calls Try.prog 49 #[.int .u8 n] w fun e w' => e = .returned (.bool false) ∧ w = w' := by
  obtain ⟨c1, c2, c3, c4, c5, c6⟩ := may_no_cases h
  have e3 : (n == 46) = false := by simpa using c3
  have e4 : (n == 95) = false := by simpa using c4
  have e5 : (n == 45) = false := by simpa using c5
  have e6 : (n == 47) = false := by simpa using c6
  clear h c3 c4 c5 c6
  by_cases d1 : 97 ≤ n
  · have d2 : ¬ n ≤ 122 := by omega
    have d3 : 48 ≤ n := by omega
    have d4 : ¬ n ≤ 57 := by omega
    clear c1 c2
    go_enter Try.func49, Try.ntmps49
    go_wp2
    go_ret
    exact ⟨rfl, rfl⟩
  by_cases d3 : 48 ≤ n
  · have d4 : ¬ n ≤ 57 := by omega
    clear c1 c2
    go_enter Try.func49, Try.ntmps49
    go_wp2
    go_ret
    exact ⟨rfl, rfl⟩
  · clear c1 c2
    go_enter Try.func49, Try.ntmps49
    go_wp2
    go_ret
    exact ⟨rfl, rfl⟩

def Good (s : ByteArray) (k : Nat) : Prop := ∀ j (hj : j < s.size), j < k → mayI s[j].toNat = true
set_option maxHeartbeats 400000 in
theorem isName_any (s : ByteArray) (w : World) (hs : s.size ≤ maxLen) : Calls Try.prog 40 #[.string s] w fun e w' => e = .returned (.bool (nameB s)) ∧ w = w' := by
  unfold maxLen at hs
  by_cases h1 : s.size < 1
  · have H := Lib.hid (nameB_short (.inl h1))
    obtain rfl : s = ⟨#[]⟩ := ByteArray.ext (Array.eq_empty_of_size_eq_zero (by change s.size = 0; omega))
    clear h1 hs
    go_enter Try.func40, Try.ntmps40
    go_wp2
    go_ret
    exact ⟨by rw [H.out]; rfl, rfl⟩
  by_cases h2 : 64 < s.size
  · have H := Lib.hid (nameB_short (.inr h2))
    go_enter Try.func40, Try.ntmps40
    go_wp2
    go_ret
    exact ⟨by rw [H.out]; rfl, rfl⟩
  have h3 : 1 ≤ s.size := by omega
  have h4 : s.size ≤ 64 := by omega
  go_enter Try.func40, Try.ntmps40
  go_wp2
  go_loop [14] (fun i => ∃ k : Nat, k ≤ s.size ∧ i = .int .i64 k ∧ Good s k) (fun i => s.size - (intOf i).toNat)
  case atStart => exact ⟨0, Nat.zero_le _, rfl, fun j _ hj => absurd hj (Nat.not_lt_zero _)⟩
  case round =>
    obtain ⟨k, hk, rfl, hG⟩ := hrel
    by_cases hlt : k < s.size
    · cases hm : mayI s[k].toNat with
      | false =>
        have H := Lib.hid (nameB_bad hlt hm)
        have HM := Lib.hid hm
        clear hm
        go_wp2_with (go_at_call 49; refine (may_no _ _ HM.out).mono ?_; rintro e w' ⟨rfl, rfl⟩)
        go_ret
        exact ⟨by rw [H.out]; rfl, rfl⟩
      | true =>
        have HM := Lib.hid hm
        have HG : Hid (Good s (k + 1)) := fun j hj hjk => by
          by_cases e : j = k
          · subst e; exact HM.out
          · exact hG j hj (by omega)
        clear hm hG
        go_wp2_with (go_at_call 49; refine (may_yes _ _ HM.out).mono ?_; rintro e w' ⟨rfl, rfl⟩)
        go_round
        case rel => exact ⟨k + 1, by omega, by go_num, HG.out⟩
        case measure => simp [intOf]; omega
    · have H : Hid (nameB s = true) := nameB_good (by omega) (by omega) (fun j hj => hG j hj (by omega))
      clear hG
      go_wp2
      go_ret
      exact ⟨by rw [H.out]; rfl, rfl⟩
theorem isName_yes (s : ByteArray) (w : World) (h : nameB s = true) : Calls Try.prog 40 #[.string s] w fun e w' => e = .returned (.bool true) ∧ w = w' := by
  have := isName_any s w (by have := nameB_size h; unfold maxLen; omega)
  rwa [h] at this
theorem isName_no (s : ByteArray) (w : World) (hs : s.size ≤ maxLen) (h : nameB s = false) : Calls Try.prog 40 #[.string s] w fun e w' => e = .returned (.bool false) ∧ w = w' := by
  have := isName_any s w hs
  rwa [h] at this

/-! ### directories looked up -/
theorem look_some {w : World} {b n : Nat} {m : Dir} (h : dirIs w b n m) (name : ByteArray) (hs : name.size ≤ maxLen) {f : Nat} (hf : m name = some f) : (Instr.lookup 50 (.map (some b)) (.string name) true).run Try.prog w = .ok (.tuple #[.pointer (some ⟨f, 0, none⟩), .bool true]) w := by
  obtain ⟨D, h1, h2⟩ := h
  obtain ⟨h3, h4⟩ := (h2 name).2 f hf
  obtain ⟨v, ps, hr, hv⟩ := h1.look_ok law9 Try.underlying50 (zero63 w) (zd := .nil) (zp := []) rfl (key_of name hs)
  rw [h4] at hv
  rw [h3] at hr
  rcases fileR_inv hv with rfl | ⟨f', rfl, e⟩
  · simp [fileR] at hv
  · simp only [Prod.mk.injEq, DataW.lit.injEq, Lit.int.injEq, true_and] at e
    have : f' = f := by have := e.1; omega
    rw [this] at hr
    exact hr
theorem look_none {w : World} {b n : Nat} {m : Dir} (h : dirIs w b n m) (name : ByteArray) (hs : name.size ≤ maxLen) (hf : m name = none) : ∃ v, (Instr.lookup 50 (.map (some b)) (.string name) true).run Try.prog w = .ok (.tuple #[v, .bool false]) w := by
  obtain ⟨D, h1, h2⟩ := h
  have h3 := (h2 name).1 hf
  obtain ⟨v, ps, hr, hv⟩ := h1.look_ok law9 Try.underlying50 (zero63 w) (zd := .nil) (zp := []) rfl (key_of name hs)
  rw [h3] at hr
  exact ⟨v, hr⟩

variable {base : Nat} {w : World} {b : Nat} {s : St} {L : Lay}

theorem find_bad (w : World) (b : Nat) (name : ByteArray) (hs : name.size ≤ maxLen) (hn : nameB name = false) :
    Calls Try.prog 29 #[.pointer (some ⟨b, 0, none⟩), .string name] w fun e w' => e = .returned (.tuple #[.pointer none, .int .i64 13]) ∧ w = w' := by
  have H := Lib.hid hn
  clear hn
  go_enter Try.func29, Try.ntmps29
  go_wp2_with (go_at_call 40; refine (isName_no _ _ hs H.out).mono ?_; rintro e w' ⟨rfl, rfl⟩)
  go_ret2
  exact ⟨rfl, rfl⟩
theorem find_some (h : FsAt base w b s L) (name : ByteArray) (hn : nameB name = true) {f : Nat} (hf : s.now name = some f) :
    Calls Try.prog 29 #[.pointer (some ⟨b, 0, none⟩), .string name] w fun e w' => e = .returned (.tuple #[.pointer (some ⟨f, 0, none⟩), .int .i64 0]) ∧ w = w' := by
  have hl := look_some h.now name (by have := nameB_size hn; unfold maxLen; omega) hf
  have c0 := h.cells.1
  have H := Lib.hid hn
  clear hn hf h
  go_enter Try.func29, Try.ntmps29
  go_wp2_with (go_at_call 40; refine (isName_yes _ _ H.out).mono ?_; rintro e w' ⟨rfl, rfl⟩)
  go_ret2
  exact ⟨rfl, rfl⟩
theorem find_none (h : FsAt base w b s L) (name : ByteArray) (hn : nameB name = true) (hf : s.now name = none) :
    Calls Try.prog 29 #[.pointer (some ⟨b, 0, none⟩), .string name] w fun e w' => e = .returned (.tuple #[.pointer none, .int .i64 16]) ∧ w = w' := by
  obtain ⟨v, hl⟩ := look_none h.now name (by have := nameB_size hn; unfold maxLen; omega) hf
  have c0 := h.cells.1
  have H := Lib.hid hn
  clear hn hf h
  go_enter Try.func29, Try.ntmps29
  go_wp2_with (go_at_call 40; refine (isName_yes _ _ H.out).mono ?_; rintro e w' ⟨rfl, rfl⟩)
  go_ret2
  exact ⟨rfl, rfl⟩

/-! ### steps -/
/-- The state with other counts: nothing else turns. -/
def St.count (s : St) (steps : Nat) (left : Int) (down : Bool) : St := { s with steps := steps, left := left, down := down }
theorem FsAt.count (h : FsAt base w b s L) {w' : World} {steps : Nat} {left : Int} {down : Bool} (hst : s.steps ≤ steps) (hl : -1 ≤ left ∧ left ≤ 9223372036854775807)
    (hblk : w'.heap[b]? = some (.cells #[.map (some L.bn), .map (some L.bs), L.wv, .int .i64 steps, .int .i64 left, .bool down] 53 (0, 0))) (hk : w.grownBy w' (some b)) : FsAt base w' b (s.count steps left down) L where
  hb := h.hb
  blk := hblk
  hn := h.hn
  hs := h.hs
  ne := h.ne
  now := h.now.move (hk.block _ h.now.lt (fun e => h.now.not_cells h.blk (by cases e; rfl)))
  safe := h.safe.move (hk.block _ h.safe.lt (fun e => h.safe.not_cells h.blk (by cases e; rfl)))
  row := h.row.kept hk (by
    right
    intro e
    obtain ⟨_, hr⟩ := h.row
    rcases hr with ⟨e1, _⟩ | ⟨g, cap, cur, e1, _, hg, _⟩
    · rw [e1] at e; cases e
    · rw [e1] at e
      simp [Value.ownBlock] at e
      rw [e, h.blk] at hg
      simp at hg)
  len1 := Nat.le_trans h.len1 hst
  len2 := Nat.le_trans h.len2 hst
  files := fun f hf => (h.files f hf).move (hk.block _ (h.files f hf).lt (fun e => by
    obtain ⟨_, c, x, y, hx, _⟩ := h.files f hf
    cases e
    rw [fileAt, h.blk] at hx
    simp at hx))
  ok := ⟨h.ok.fold, h.ok.named, hl⟩
theorem grown_set (w : World) (b i : Nat) (u : Value) : w.grownBy (w.setCell ⟨b, i, none⟩ u) (some b) :=
  ⟨rfl, rfl, rfl, by simp [World.setCell], fun k _ hk => Below.heap_setCell _ _ _ _ (fun e => hk (by rw [e]))⟩
theorem grownBy_trans {a b c : World} {r : Option Nat} (h : a.grownBy b r) (k : b.grownBy c r) : a.grownBy c r :=
  ⟨k.os.trans h.os, k.tape.trans h.tape, k.output.trans h.output, Nat.le_trans h.size k.size, fun i hi hr => (k.block i (Nat.lt_of_lt_of_le hi h.size) hr).trans (h.block i hi hr)⟩
theorem FsAt.kept (h : FsAt base w b s L) {w' : World} (hk : w.grownBy w' (some b)) : Kept base w w' := (Kept.refl _ _).grown hk h.hb h.code
theorem FsAt.same (h : FsAt base w b s L) {w' : World} (hk : w.grownBy w' (some b)) : SameFiles w w' := .grown hk (fun cs e => by rw [h.blk] at e; simp at e)

theorem step_down (h : FsAt base w b s L) (hd : s.down = true ∨ s.left = 0) :
    Calls Try.prog 28 #[.pointer (some ⟨b, 0, none⟩)] w fun e w' => e = .returned (.int .i64 17) ∧ FsAt base w' b (s.count s.steps s.left true) L ∧ Kept base w w' ∧ SameFiles w w' := by
  obtain ⟨_, _, _, c3, c4, c5⟩ := h.cells
  have f5 := h.free 5 (by omega)
  by_cases hdn : s.down = true
  · rw [hdn] at c5
    have hblk := h.blk
    rw [hdn] at hblk
    have hF : Hid (FsAt base w b (s.count s.steps s.left true) L) := h.count (Nat.le_refl _) h.ok.left hblk ⟨rfl, rfl, rfl, Nat.le_refl _, fun _ _ _ => rfl⟩
    clear hd hdn hblk h
    go_enter Try.func28, Try.ntmps28
    go_wp2
    go_ret
    exact ⟨rfl, hF.out, Kept.refl _ _, SameFiles.refl _⟩
  · have hz : s.left = 0 := by simpa [hdn] using hd
    have hdf : s.down = false := by simpa using hdn
    rw [hz] at c4
    rw [hdf] at c5
    have hg := grown_set w b 5 (.bool true)
    have hF : Hid (FsAt base (w.setCell ⟨b, 5, none⟩ (.bool true)) b (s.count s.steps s.left true) L) := h.count (Nat.le_refl _) h.ok.left (by simp [World.setCell, Array.getElem?_modify, h.blk]) hg
    have hK := h.kept hg
    have hS : Hid (SameFiles w _) := h.same hg
    clear hd hdn hdf hz h hg
    go_enter Try.func28, Try.ntmps28
    go_wp2
    go_ret
    exact ⟨rfl, hF.out, hK, hS.out⟩
/-- What is left of the steps behind one more. -/
def lessOne (l : Int) : Int := if 0 < l then l - 1 else l
theorem lessOne_ok {l : Int} (h : -1 ≤ l ∧ l ≤ 9223372036854775807) : -1 ≤ lessOne l ∧ lessOne l ≤ 9223372036854775807 := by unfold lessOne; split <;> omega
theorem step_ok (h : FsAt base w b s L) (hd : s.down = false) (hz : s.left ≠ 0) (hst : s.steps ≤ 1000000) :
    Calls Try.prog 28 #[.pointer (some ⟨b, 0, none⟩)] w fun e w' => e = .returned (.int .i64 0) ∧ FsAt base w' b (s.count (s.steps + 1) (lessOne s.left) false) L ∧ Kept base w w' ∧ SameFiles w w' := by
  obtain ⟨_, _, _, c3, c4, c5⟩ := h.cells
  have f3 := h.free 3 (by omega)
  have f4 := h.free 4 (by omega)
  obtain ⟨l1, l2⟩ := h.ok.left
  rw [hd] at c5
  have hz' : (s.left == 0) = false := by simpa using hz
  by_cases hp : 0 < s.left
  · have hg := grownBy_trans (grown_set w b 4 (.int .i64 (s.left - 1))) (grown_set _ b 3 (.int .i64 ((s.steps + 1 : Nat) : Int)))
    have hF : Hid (FsAt base ((w.setCell ⟨b, 4, none⟩ (.int .i64 (s.left - 1))).setCell ⟨b, 3, none⟩ (.int .i64 ((s.steps + 1 : Nat) : Int))) b (s.count (s.steps + 1) (lessOne s.left) false) L) := h.count (by omega) (lessOne_ok h.ok.left) (by simp [World.setCell, Array.getElem?_modify, h.blk, lessOne, hp, hd]) hg
    have hK := Lib.hid (h.kept hg)
    have hS : Hid (SameFiles w _) := h.same hg
    clear hd hz h hg
    go_enter Try.func28, Try.ntmps28
    go_wp2
    go_ret
    exact ⟨rfl, hF.out, hK.out, hS.out⟩
  · have hg := grown_set w b 3 (.int .i64 ((s.steps + 1 : Nat) : Int))
    have hF : Hid (FsAt base (w.setCell ⟨b, 3, none⟩ (.int .i64 ((s.steps + 1 : Nat) : Int))) b (s.count (s.steps + 1) (lessOne s.left) false) L) := h.count (by omega) (lessOne_ok h.ok.left) (by simp [World.setCell, Array.getElem?_modify, h.blk, lessOne, hp, hd]) hg
    have hK := Lib.hid (h.kept hg)
    have hS : Hid (SameFiles w _) := h.same hg
    clear hd hz h hg
    go_enter Try.func28, Try.ntmps28
    go_wp2
    go_ret
    exact ⟨rfl, hF.out, hK.out, hS.out⟩

theorem down_any (h : FsAt base w b s L) : Calls Try.prog 9 #[.pointer (some ⟨b, 0, none⟩)] w fun e w' => e = .returned (.bool s.down) ∧ w = w' := by
  have c5 := h.cells.2.2.2.2.2
  clear h
  go_enter Try.func9, Try.ntmps9
  go_wp2
  go_ret
  exact ⟨rfl, rfl⟩
theorem steps_any (h : FsAt base w b s L) : Calls Try.prog 16 #[.pointer (some ⟨b, 0, none⟩)] w fun e w' => e = .returned (.int .i64 s.steps) ∧ w = w' := by
  have c3 := h.cells.2.2.2.1
  clear h
  go_enter Try.func16, Try.ntmps16
  go_wp2
  go_ret
  exact ⟨rfl, rfl⟩
/-- The slice of what waits: nil, or a row. -/
theorem wv_cases (h : FsAt base w b s L) : (L.wv = .slice none 0 0 ∧ s.wait = []) ∨ ∃ g cap, L.wv = .slice (some ⟨g, 0, none⟩) s.wait.length cap := by
  obtain ⟨_, hr⟩ := h.row
  rcases hr with ⟨e1, e2⟩ | ⟨g, cap, cur, e1, _⟩
  · exact .inl ⟨e1, List.eq_nil_of_length_eq_zero e2⟩
  · exact .inr ⟨g, cap, e1⟩
theorem waiting_any (h : FsAt base w b s L) : Calls Try.prog 17 #[.pointer (some ⟨b, 0, none⟩)] w fun e w' => e = .returned (.int .i64 s.wait.length) ∧ w = w' := by
  have c2 := h.cells.2.2.1
  rcases wv_cases h with ⟨e1, e2⟩ | ⟨g, cap, e1⟩
  · rw [e1] at c2
    rw [e2]
    clear h e1 e2
    go_enter Try.func17, Try.ntmps17
    go_wp2
    go_ret
    exact ⟨rfl, rfl⟩
  · rw [e1] at c2
    clear h e1
    go_enter Try.func17, Try.ntmps17
    go_wp2
    go_ret
    exact ⟨rfl, rfl⟩
theorem arm_any (h : FsAt base w b s L) (n : Int) (hn : n ≤ 9223372036854775807) :
    Calls Try.prog 10 #[.pointer (some ⟨b, 0, none⟩), .int .i64 n] w fun e w' => e = .returned (.tuple #[]) ∧ FsAt base w' b (s.count s.steps (max n (-1)) s.down) L ∧ Kept base w w' ∧ SameFiles w w' := by
  obtain ⟨_, _, _, _, c4, _⟩ := h.cells
  have f4 := h.free 4 (by omega)
  obtain ⟨m, hm⟩ : ∃ m, m = max n (-1) := ⟨_, rfl⟩
  rw [← hm]
  have hg := grown_set w b 4 (.int .i64 m)
  have hF : Hid (FsAt base (w.setCell ⟨b, 4, none⟩ (.int .i64 m)) b (s.count s.steps m s.down) L) := h.count (Nat.le_refl _) (by omega) (by simp [World.setCell, Array.getElem?_modify, h.blk]) hg
  have hK := Lib.hid (h.kept hg)
  have hS : Hid (SameFiles w _) := h.same hg
  clear h hg
  by_cases hc : -1 ≤ n
  · obtain rfl : m = n := by omega
    clear hm
    go_enter Try.func10, Try.ntmps10
    go_wp2
    go_end0
    exact ⟨rfl, hF.out, hK.out, hS.out⟩
  · obtain rfl : m = -1 := by omega
    clear hm
    go_enter Try.func10, Try.ntmps10
    go_wp2
    go_end0
    exact ⟨rfl, hF.out, hK.out, hS.out⟩
theorem fileAt.cells {w : World} {f : Nat} {c : Int} {x y : ByteArray} (h : fileAt w f c x y) : w.cell? ⟨f, 0, none⟩ = some (.int .i64 c) ∧ w.cell? ⟨f, 1, none⟩ = some (.string x) ∧ w.cell? ⟨f, 2, none⟩ = some (.string y) ∧ w.frozen? ⟨f, 0, none⟩ = false ∧ w.frozen? ⟨f, 1, none⟩ = false ∧ w.frozen? ⟨f, 2, none⟩ = false := by
  unfold fileAt at h
  simp [World.cell?, World.frozen?, h]
theorem read_some (h : FsAt base w b s L) (hd : s.down = false) (name : ByteArray) (hn : nameB name = true) {f : Nat} (hf : s.now name = some f) {c : Int} {x y : ByteArray} (hx : fileAt w f c x y) :
    Calls Try.prog 15 #[.pointer (some ⟨b, 0, none⟩), .string name] w fun e w' => e = .returned (.tuple #[.string x, .int .i64 0]) ∧ w = w' := by
  have c5 := h.cells.2.2.2.2.2
  have c1 := hx.cells.2.1
  rw [hd] at c5
  have HN := Lib.hid hn
  have HF := Lib.hid hf
  have HH := Lib.hid h
  clear h hd hn hf hx
  go_enter Try.func15, Try.ntmps15
  go_wp2_with (go_at_call 29; refine (find_some HH.out _ HN.out HF.out).mono ?_; rintro e w' ⟨rfl, rfl⟩)
  go_ret2
  exact ⟨rfl, rfl⟩
end Go.Proofs.Ytimcoofmemcojaa
