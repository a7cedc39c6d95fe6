/-
  Rows of texts and of rows in memory; the document's Lines.
-/
import Derived.Test.YtmenbgdkokegaaaDoorRemark
namespace Go.Proofs.YtmenbgdkokegaaaDoor
open Go.ChangeShapes Go.WideShapes Go.ChangeAt Go.RowKit
attribute [local go_sem ↓] Go.wp_at_zero Go.wp_at_succ
variable {w : World}

theorem Fresh.grown {a b c : World} (h : Fresh a b) {row : Option Nat} (hg : b.grownBy c row) (hr : ∀ g, row = some g → a.heap.size ≤ g) : Fresh a c := Below.grown h hg h.size hr
def tx (l : List UInt8) : ByteArray := ⟨l.toArray⟩
theorem tx_toList (l : List UInt8) : (tx l).data.toList = l := by simp [tx]
theorem tx_size (l : List UInt8) : (tx l).size = l.length := by simp [tx, ByteArray.size]
theorem tx_of (s : ByteArray) : tx s.data.toList = s := by
  cases s; rfl
theorem tx_extract (s : ByteArray) (a b : Nat) : s.extract a b = tx ((s.data.toList.drop a).take (b - a)) := by
  conv => lhs; rw [← tx_of s]
  exact Lib.extract_mk _ _ _
/-! ### rows of texts -/
def scells (l : List (List UInt8)) : List Value := l.map fun x => .string (tx x)
theorem scells_snoc (l : List (List UInt8)) (x : List UInt8) : scells (l ++ [x]) = scells l ++ [.string (tx x)] := by simp [scells]
/-- A row of texts that the call owns, from block B on. -/
def SBuf (w : World) (B : Nat) (v : Value) (l : List (List UInt8)) : Prop := w.ownsRow B 9 1 v l.length (scells l)
theorem SBuf.lt {w : World} {B : Nat} {v : Value} {l : List (List UInt8)} (h : SBuf w B v l) : ∀ g, v.ownBlock = some g → B ≤ g ∧ g < w.heap.size := World.ownsRow.lt h
theorem SBuf.fresh {w w' : World} {B : Nat} {v : Value} {l : List (List UInt8)} (h : SBuf w B v l) (hf : Fresh w w') : SBuf w' B v l := by
  refine World.ownsRow.kept (row := none) h ⟨hf.os, hf.tape, hf.output, hf.size, fun k hk _ => hf.block k hk⟩ ?_
  rcases h' : v.ownBlock with _ | g
  · exact .inl rfl
  · exact .inr (by simp)
theorem SBuf.more {w' : World} {B : Nat} {v : Value} {l : List (List UInt8)} {x : List UInt8} (h : w'.ownsRow B 9 1 v (l.length + 1) (scells l ++ [.string (tx x)])) : SBuf w' B v (l ++ [x]) := by
  unfold SBuf
  rw [scells_snoc, List.length_append]
  exact h
theorem scells_get (l : List (List UInt8)) (j : Nat) (h : j < l.length) : (scells l)[j]? = some (.string (tx l[j])) := by
  unfold scells
  rw [List.getElem?_map, List.getElem?_eq_getElem h]; rfl
theorem SBuf.cell {w : World} {B g n cap : Nat} {l : List (List UInt8)} (h : SBuf w B (.slice (some ⟨g, 0, none⟩) n cap) l) (j : Nat) (hj : j < l.length) : w.cell? ⟨g, j, none⟩ = some (.string (tx l[j])) := by
  have := World.ownsRow.cells h rfl j _ (scells_get l j hj)
  rwa [addr_add0] at this
theorem info9 : (Tryd.prog.info? 9).map (fun i => (i.zero, i.size, i.bytes)) = some (some (.string ⟨#[]⟩), 1, 16) := by kernel_rfl
/-! ### rows of rows -/
def rcell (r : Rw) : List Value := [.int .i64 (r.line : Int), .int .i64 (r.indent : Int), .bool r.dash, .string (tx r.text)]
def rcells (l : List Rw) : List Value := l.flatMap rcell
theorem rcells_snoc (l : List Rw) (t : Rw) : rcells (l ++ [t]) = rcells l ++ rcell t := by simp [rcells]
theorem rcell_one (t : Rw) : ∀ u ∈ rcell t, u.oneCell' = true := fun u hu => by
  simp only [rcell, List.mem_cons, List.not_mem_nil, or_false] at hu
  rcases hu with rfl | rfl | rfl | rfl <;> rfl
/-- A row of rows that the call owns, from block B on. -/
def RBuf (ty : Nat) (w : World) (B : Nat) (v : Value) (l : List Rw) : Prop := w.ownsRow B ty 4 v l.length (rcells l)
theorem RBuf.lt {ty : Nat} {w : World} {B : Nat} {v : Value} {l : List Rw} (h : RBuf ty w B v l) : ∀ g, v.ownBlock = some g → B ≤ g ∧ g < w.heap.size := World.ownsRow.lt h
theorem RBuf.fresh {ty : Nat} {w w' : World} {B : Nat} {v : Value} {l : List Rw} (h : RBuf ty w B v l) (hf : Fresh w w') : RBuf ty w' B v l := by
  refine World.ownsRow.kept (row := none) h ⟨hf.os, hf.tape, hf.output, hf.size, fun k hk _ => hf.block k hk⟩ ?_
  rcases h' : v.ownBlock with _ | g
  · exact .inl rfl
  · exact .inr (by simp)
theorem RBuf.more {ty : Nat} {w' : World} {B : Nat} {v : Value} {l : List Rw} {t : Rw} (h : w'.ownsRow B ty 4 v (l.length + 1) (rcells l ++ rcell t)) : RBuf ty w' B v (l ++ [t]) := by
  unfold RBuf
  rw [rcells_snoc, List.length_append]
  exact h
theorem rcells_get (l : List Rw) : ∀ (i : Nat) (h : i < l.length) (j : Nat), j < 4 → (rcells l)[4 * i + j]? = (rcell l[i])[j]? := by
  induction l with
  | nil => intro i h; simp at h
  | cons t l ih =>
    intro i h j hj
    have e : rcells (t :: l) = rcell t ++ rcells l := by simp [rcells]
    have hl : (rcell t).length = 4 := rfl
    rw [e]
    rcases i with _ | i
    · rw [List.getElem?_append_left (by omega)]
      simp
    · rw [List.getElem?_append_right (by omega), hl, show 4 * (i + 1) + j - 4 = 4 * i + j by omega, ih i (by simpa using h) j hj]
      simp
theorem RBuf.cell {ty : Nat} {w : World} {B g n cap : Nat} {l : List Rw} (h : RBuf ty w B (.slice (some ⟨g, 0, none⟩) n cap) l) (i : Nat) (hi : i < l.length) (j : Nat) (hj : j < 4) {u : Value} (hu : (rcell l[i])[j]? = some u) : w.cell? ⟨g, 4 * i + j, none⟩ = some u := by
  have := World.ownsRow.cells h rfl (4 * i + j) u (by rw [rcells_get l i hi j hj]; exact hu)
  rwa [addr_add0] at this
theorem info32 : (Tryd.prog.info? 32).map (fun i => (i.zero, i.size, i.bytes)) = some (some (.agg #[.int .i64 0, .int .i64 0, .bool false, .string ⟨#[]⟩]), 4, 40) := by kernel_rfl
theorem info31 : (Tryd.prog.info? 31).map (fun i => (i.zero, i.size, i.bytes)) = some (some (.agg #[.int .i64 0, .int .i64 0, .bool false, .string ⟨#[]⟩]), 4, 40) := by kernel_rfl
theorem rnews (ty : Nat) (w : World) (t : Rw) : ∀ j u, (rcell t)[j]? = some u → (w.alloc (.cells #[.int .i64 (t.line : Int), .int .i64 (t.indent : Int), .bool t.dash, .string (tx t.text)] ty)).cell? ((⟨w.heap.size, 0, none⟩ : Addr).add j) = some u :=
  World.news_of_block (at_new w (.cells #[.int .i64 (t.line : Int), .int .i64 (t.indent : Int), .bool t.dash, .string (tx t.text)] ty))
theorem snews (w : World) (x : ByteArray) : ∀ j u, [Value.string x][j]? = some u → (w.alloc (.cells #[.string x] 9)).cell? ((⟨w.heap.size, 0, none⟩ : Addr).add j) = some u :=
  World.news_of_block (at_new w (.cells #[.string x] 9))
/-! ### Lines -/
def cur (l : List UInt8) (a b : Nat) : List UInt8 := (l.drop a).take (b - a)
theorem cur_self (l : List UInt8) (a : Nat) : cur l a a = [] := by simp [cur]
theorem cur_succ (l : List UInt8) (a b : Nat) (h : a ≤ b) (hb : b < l.length) : cur l a (b + 1) = cur l a b ++ [l[b]] := by
  unfold cur
  rw [show b + 1 - a = (b - a) + 1 by omega, List.take_succ_eq_append_getElem (by simp; omega)]
  congr 1
  simp [show a + (b - a) = b by omega]
/-- What is done, and what is left. -/
def LinesAt (l : List UInt8) (a b : Nat) (out : List (List UInt8)) : Prop := lnsA [] l = out ++ lnsA (cur l a b) (l.drop b)
theorem linesAt_zero (l : List UInt8) : LinesAt l 0 0 [] := by
  unfold LinesAt
  rw [cur_self]; rfl
theorem linesAt_byte {l : List UInt8} {a b : Nat} {out : List (List UInt8)} (h : LinesAt l a b out) (ha : a ≤ b) (hb : b < l.length) (hc : l[b] ≠ 10) : LinesAt l a (b + 1) out := by
  unfold LinesAt at *
  rw [h, List.drop_eq_getElem_cons hb, lnsA, if_neg hc, cur_succ l a b ha hb]
theorem linesAt_feed {l : List UInt8} {a b : Nat} {out : List (List UInt8)} (h : LinesAt l a b out) (hb : b < l.length) (hc : l[b] = 10) : LinesAt l (b + 1) (b + 1) (out ++ [cur l a b]) := by
  unfold LinesAt at *
  rw [h, List.drop_eq_getElem_cons hb, lnsA, if_pos hc, cur_self]
  simp
theorem linesAt_end {l : List UInt8} {a b : Nat} {out : List (List UInt8)} (h : LinesAt l a b out) (hb : b = l.length) : lnsA [] l = out ++ [cur l a b] := by
  unfold LinesAt at *
  rw [h, List.drop_eq_nil_of_le (by omega), lnsA]
def LinesIs (w : World) (L : List (List UInt8)) (e : Ending) (w' : World) : Prop :=
  (∃ g cap, e = .returned (.slice (some ⟨g, 0, none⟩) L.length cap) ∧ SBuf w' w.heap.size (.slice (some ⟨g, 0, none⟩) L.length cap) L) ∧ Fresh w w'
set_option maxRecDepth 100000 in
set_option maxHeartbeats 1000000 in
theorem lines_any (s : ByteArray) (w : World) (hs : s.size ≤ 1000000) : Calls Tryd.prog 13 #[.string s] w (LinesIs w (lnsA [] s.data.toList)) := by
  obtain ⟨i0, hi, hz0, hz1, hz2⟩ := info_parts info9
  have hll : s.data.toList.length = s.size := by simp
  have HLL := Lib.hid hll
  clear hll
  obtain ⟨L, hL⟩ : ∃ L, L = lnsA [] s.data.toList := ⟨_, rfl⟩
  rw [← hL]
  have HL := Lib.hid hL
  have HLN : Hid (L.length ≤ s.size + 1) := by rw [Hid, hL]; have := lnsA_len [] s.data.toList; simp at this; exact this
  have HEX : Hid (∀ a b, s.extract a b = tx (cur s.data.toList a b)) := fun a b => tx_extract s a b
  clear hL
  go_enter Tryd.func13, Tryd.ntmps13
  go_wp2
  go_loopw [3, 4, 5] (fun a3 a4 a5 wr => ∃ (a b : Nat) (out : List (List UInt8)) (v : Value), b ≤ s.size + 1 ∧ a ≤ b ∧ v = a3 ∧ a4 = .int .i64 a ∧ a5 = .int .i64 b ∧ Hid (b ≤ s.size → LinesAt s.data.toList a b out) ∧ Hid (s.size < b → L = out ∧ ∃ g n cap, v = .slice (some ⟨g, 0, none⟩) n cap) ∧ Hid (out.length ≤ b) ∧ Hid (SBuf wr w.heap.size v out) ∧ Hid (Fresh w wr)) (fun _ _ a5 _ => s.size + 1 - (intOf a5).toNat)
  case atStart => exact ⟨0, 0, [], .slice none 0 0, by omega, by omega, rfl, rfl, rfl, fun _ => linesAt_zero _, fun h => by omega, by simp [Hid], World.ownsRow_nil _ _ _ _, Fresh.refl _⟩
  case round =>
    obtain ⟨a, b, out, v, hb, ha, rfl, rfl, rfl, HAT, HEND, HLEN, HB, HF⟩ := hrel
    by_cases hlt : b < s.size + 1
    · have hbs : (b : Int) ≤ (s.size : Int) := by omega
      have hcl : out.length ≤ 1000001 := by have := HLEN.out; omega
      have q0 := HEX.out a b
      have hab : (a : Int) ≤ (b : Int) := by omega
      by_cases heq : b = s.size
      · subst heq
        have HN := Lib.hid (linesAt_end (HAT.out (Nat.le_refl _)) HLL.out.symm)
        have HCELL := Lib.hid (snews wr (tx (cur s.data.toList a s.size)))
        generalize cur s.data.toList a s.size = x at *
        go_wp2_with (at_builtin; refine Hid.out ?_)
        refine Lib.hid ?_
        refine wpList_append_lies _ rfl _ _ 34 rfl w.heap.size 9 i0 (.string ⟨#[]⟩) 1 16 Tryd.underlying34 hi hz0 hz1 hz2 rfl (by decide) v out.length (scells out) rfl (World.ownsRow.alloc HB.out _) ⟨wr.heap.size, 0, none⟩ 1 1 [.string (tx x)] rfl rfl HCELL.out (by simp [Value.oneCell']) (by decide) (by unfold maxLen; omega) (by omega) (by rw [World.size_alloc]; have := HF.out.size; omega) (wr.heap.size + 1) (by simp) ?_
        intro g cap w2 hown hgrow hat hlt2
        have HT2 := Lib.hid (SBuf.more hown)
        have HF2 := Lib.hid ((HF.out.alloc (.cells #[.string (tx x)] 9)).grown hgrow (fun g e => (HB.out.lt g e).1))
        clear hown hgrow hat hlt2
        go_wp2
        go_roundw
        case rel => exact ⟨s.size + 1, s.size + 1, out ++ [x], _, by omega, by omega, rfl, by simp, by simp, fun h => by omega, fun _ => ⟨by rw [HL.out]; exact HN.out, _, _, _, rfl⟩, by rw [Hid, List.length_append]; have := HLEN.out; simp; omega, HT2.out, HF2.out⟩
        case measure => simp [intOf]
      · have hlt' : b < s.size := by omega
        have hne : ((b : Int) == (s.size : Int)) = false := by rw [beq_eq_false_iff_ne]; omega
        have hne' : (b : Int) ≠ (s.size : Int) := by omega
        have HL' : Hid (b < s.data.toList.length) := by rw [Hid, HLL.out]; exact hlt'
        have HBY : Hid (s.data.toList[b]'HL'.out = s[b]'hlt') := rfl
        by_cases c10 : s[b] = 10
        · have e10 : ((s[b].toNat : Int) == 10) = true := eqB (n := 10) c10 (by omega)
          have x10 : (s[b].toNat : Int) = 10 := by simpa using e10
          have HN := Lib.hid (linesAt_feed (HAT.out (by omega)) HL'.out (HBY.out.trans c10))
          have HCELL := Lib.hid (snews wr (tx (cur s.data.toList a b)))
          clear c10
          generalize cur s.data.toList a b = x at *
          go_wp2_with (at_builtin; refine Hid.out ?_)
          all_goals try (exfalso; omega)
          refine Lib.hid ?_
          refine wpList_append_lies _ rfl _ _ 34 rfl w.heap.size 9 i0 (.string ⟨#[]⟩) 1 16 Tryd.underlying34 hi hz0 hz1 hz2 rfl (by decide) v out.length (scells out) rfl (World.ownsRow.alloc HB.out _) ⟨wr.heap.size, 0, none⟩ 1 1 [.string (tx x)] rfl rfl HCELL.out (by simp [Value.oneCell']) (by decide) (by unfold maxLen; omega) (by omega) (by rw [World.size_alloc]; have := HF.out.size; omega) (wr.heap.size + 1) (by simp) ?_
          intro g cap w2 hown hgrow hat hlt2
          have HT2 := Lib.hid (SBuf.more hown)
          have HF2 := Lib.hid ((HF.out.alloc (.cells #[.string (tx x)] 9)).grown hgrow (fun g e => (HB.out.lt g e).1))
          clear hown hgrow hat hlt2
          go_wp2
          go_roundw
          case rel => exact ⟨b + 1, b + 1, out ++ [x], _, by omega, by omega, rfl, by simp, by simp, fun _ => HN.out, fun h => by omega, by rw [Hid, List.length_append]; have := HLEN.out; simp; omega, HT2.out, HF2.out⟩
          case measure => simp [intOf]; omega
        · have e10 : ((s[b].toNat : Int) == 10) = false := neB (n := 10) c10
          have x10 : (s[b].toNat : Int) ≠ 10 := by simpa using e10
          have HN := Lib.hid (linesAt_byte (HAT.out (by omega)) ha HL'.out (by rw [HBY.out]; exact c10))
          clear c10
          go_wp2
          all_goals try (exfalso; omega)
          go_roundw
          case rel => exact ⟨a, b + 1, out, _, by omega, by omega, rfl, rfl, by simp, fun _ => HN.out, fun h => by omega, by have := HLEN.out; exact Nat.le_succ_of_le this, HB.out, HF.out⟩
          case measure => simp [intOf]; omega
    · obtain ⟨rfl, g, n, cap, rfl⟩ := HEND.out (by omega)
      have hlt3 : ¬ (b : Int) ≤ (s.size : Int) := by omega
      have hn : n = L.length := by
        obtain ⟨_, ⟨h1, _⟩ | ⟨g', cap', c2, h1, _⟩⟩ := HB.out
        · cases h1
        · injection h1
      subst hn
      go_wp2
      go_ret
      exact ⟨⟨g, cap, rfl, HB.out⟩, HF.out⟩
end Go.Proofs.YtmenbgdkokegaaaDoor
