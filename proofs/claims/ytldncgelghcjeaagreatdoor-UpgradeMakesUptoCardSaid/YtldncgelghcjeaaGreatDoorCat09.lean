/-
  Package utf's reader: what each of its methods does on the roads that quoted texts take.
  Package utf's reader: an escape by number, a character, and what Unquote makes of a quoted text.
  Package utf's reader: a character that stands as it is.
  What is wrong with a text, by package spec.
  What is wrong with a command's texts.
-/
import Derived.Test.YtldncgelghcjeaaGreatDoorCat08
import Derived.Lib.AppendStr
import Derived.Deep.RegionHeld3
import Derived.Test.YtldncgelghcjeaaGreatDoorCat07
set_option linter.unusedSimpArgs false
set_option linter.unusedVariables false
namespace Go.Proofs.YtldncgelghcjeaaGreatDoor
open Go.ChangeShapes Go.WideShapes Go.ChangeAt Go.RowKit
attribute [local go_sem ↓] Go.wp_at_zero Go.wp_at_succ
variable {w : World}

def bs (l : List UInt8) : ByteArray := ⟨l.toArray⟩
theorem bs_toList (l : List UInt8) : (bs l).data.toList = l := by simp [bs]
theorem bs_size (l : List UInt8) : (bs l).size = l.length := by simp [bs, ByteArray.size]
theorem bs_drop (n : Nat) (l : List UInt8) : (bs l).extract n (bs l).size = bs (l.drop n) := by
  apply ByteArray.ext
  apply Array.toList_inj.1
  rw [ByteArray.data_extract, Array.toList_extract, bs_toList, bs_size, bs_toList]
  simp [List.take_of_length_le]
/-- The first byte, and the others. -/
structure Cons (r : ByteArray) (c : UInt8) (r1 : ByteArray) : Prop where
  pos : 0 < r.size
  get : r[0] = c
  cut : r.extract 1 r.size = r1
  ne : r.toList.isEmpty = false
theorem bs_cons (c : UInt8) (l : List UInt8) : Cons (bs (c :: l)) c (bs l) :=
  ⟨by rw [bs_size]; simp, rfl, bs_drop 1 (c :: l), by
    rw [Lib.toList_data, bs_toList]; rfl⟩
/-- A reader at block b: what it wasn't read yet, and what was read. -/
structure Rdr (w : World) (b : Nat) (rest : List UInt8) (v : Value) (text : List UInt8) : Prop where
  box : w.heap[b]? = some (.cells #[.string (bs rest), v] 216 (0, 0))
  buf : Buf w (b + 1) v text
theorem Rdr.c0 {w : World} {b : Nat} {rest : List UInt8} {v : Value} {text : List UInt8} (h : Rdr w b rest v text) : w.cell? ⟨b, 0, none⟩ = some (.string (bs rest)) := cell_of_at h.box rfl
theorem Rdr.c1 {w : World} {b : Nat} {rest : List UInt8} {v : Value} {text : List UInt8} (h : Rdr w b rest v text) : w.cell? ⟨b, 1, none⟩ = some v := cell_of_at h.box rfl
theorem Rdr.f0 {w : World} {b : Nat} {rest : List UInt8} {v : Value} {text : List UInt8} (h : Rdr w b rest v text) : w.frozen? ⟨b, 0, none⟩ = false := by simp [World.frozen?, h.box]
theorem Rdr.f1 {w : World} {b : Nat} {rest : List UInt8} {v : Value} {text : List UInt8} (h : Rdr w b rest v text) : w.frozen? ⟨b, 1, none⟩ = false := by simp [World.frozen?, h.box]
theorem Rdr.fresh {w w' : World} {b : Nat} {rest : List UInt8} {v : Value} {text : List UInt8} (h : Rdr w b rest v text) (f : Fresh w w') : Rdr w' b rest v text :=
  ⟨by rw [f.block b (lt_of_at h.box)]; exact h.box, h.buf.fresh f⟩
theorem Rdr.set0 {w : World} {b : Nat} {rest r2 : List UInt8} {v : Value} {text : List UInt8} (h : Rdr w b rest v text) : Rdr (w.setCell ⟨b, 0, none⟩ (.string (bs r2))) b r2 v text := by
  refine ⟨by simp [World.setCell, Array.getElem?_modify, h.box], h.buf.kept (grown_set w b 0 _) ?_⟩
  rcases hv : v.ownBlock with _ | g
  · exact .inl rfl
  · refine .inr (fun e => ?_)
    injection e with e
    have := (h.buf.lt g hv).1
    omega
/-- What a method leaves: the number e, and the reader so. -/
def Reads (w : World) (b : Nat) (rest text : List UInt8) (n : Int) (e : Ending) (w' : World) : Prop := e = .returned (.int .i64 n) ∧ (∃ v, Rdr w' b rest v text) ∧ Below b w w'
theorem grown_alloc {w w' : World} {o : Obj} {row : Option Nat} (h : (w.alloc o).grownBy w' row) : w.grownBy w' row :=
  ⟨h.os, h.tape, h.output, by have := h.size; rw [World.size_alloc] at this; omega, fun k hk hne => (h.block k (by rw [World.size_alloc]; omega) hne).trans (Below.heap_alloc _ _ _ hk)⟩
/-- Behind an append to what was read, and its store. -/
structure Pushed (w w2 : World) (b : Nat) (rest : List UInt8) (v v2 : Value) (text : List UInt8) : Prop where
  c0 : w2.cell? ⟨b, 0, none⟩ = some (.string (bs rest))
  f0 : w2.frozen? ⟨b, 0, none⟩ = false
  c1 : w2.cell? ⟨b, 1, none⟩ = some v
  f1 : w2.frozen? ⟨b, 1, none⟩ = false
  lt : b < w2.heap.size
  rdr : Rdr (w2.setCell ⟨b, 1, none⟩ v2) b rest v2 text
  below : Below b w (w2.setCell ⟨b, 1, none⟩ v2)
theorem Rdr.push {w w2 : World} {b : Nat} {rest : List UInt8} {v v2 : Value} {text m : List UInt8} (h : Rdr w b rest v text) (hown : Buf w2 (b + 1) v2 (text ++ m)) (hg : w.grownBy w2 v.ownBlock) : Pushed w w2 b rest v v2 (text ++ m) := by
  have hne : some b ≠ v.ownBlock := fun e => by have := (h.buf.lt b e.symm).1; omega
  have hb : w2.heap[b]? = some (.cells #[.string (bs rest), v] 216 (0, 0)) := by rw [hg.block b (lt_of_at h.box) hne]; exact h.box
  refine ⟨cell_of_at hb rfl, by simp [World.frozen?, hb], cell_of_at hb rfl, by simp [World.frozen?, hb], lt_of_at hb, ⟨by simp [World.setCell, Array.getElem?_modify, hb], hown.kept (grown_set w2 b 1 _) ?_⟩, ?_⟩
  · rcases hv : v2.ownBlock with _ | g
    · exact .inl rfl
    · refine .inr (fun e => ?_)
      injection e with e
      have := (hown.lt g hv).1
      omega
  · exact ((Below.refl b w).grown hg (Nat.le_of_lt (lt_of_at h.box)) (fun k e => by have := (h.buf.lt k e).1; omega)).setCell (Nat.le_refl _) _
theorem Rdr.below0 {w : World} {b : Nat} {u : Value} : Below b w (w.setCell ⟨b, 0, none⟩ u) := (Below.refl b w).setCell (Nat.le_refl _) _
theorem news_set (w : World) (a : Addr) (u : Value) (cs : Array Value) (l : List UInt8) (h : cs.toList = vals l) : ∀ j x, (vals l)[j]? = some x → ((w.setCell a u).alloc (.cells cs 5)).cell? ((⟨w.heap.size, 0, none⟩ : Addr).add j) = some x := by
  have := news_at (w.setCell a u) cs l h
  rw [show (w.setCell a u).heap.size = w.heap.size by simp [World.setCell]] at this
  exact this
theorem digit_num (c : UInt8) (w : World) (h0 : 48 ≤ c.toNat) (h1 : c.toNat ≤ 57) : Calls Tryz.prog 196 #[.int .u8 (c.toNat : Int)] w fun e w' => e = .returned (.tuple #[.int .i32 ((c.toNat : Int) - 48), .bool true]) ∧ w = w' := by
  have a0 : (48 : Int) ≤ (c.toNat : Int) := by omega
  have a1 : (c.toNat : Int) ≤ 57 := by omega
  clear h0 h1
  go_enter Tryz.func196, Tryz.ntmps196
  go_wp2
  go_ret2
  exact ⟨rfl, rfl⟩
theorem digit_low (c : UInt8) (w : World) (h0 : 97 ≤ c.toNat) (h1 : c.toNat ≤ 102) : Calls Tryz.prog 196 #[.int .u8 (c.toNat : Int)] w fun e w' => e = .returned (.tuple #[.int .i32 ((c.toNat : Int) - 87), .bool true]) ∧ w = w' := by
  have a0 : (97 : Int) ≤ (c.toNat : Int) := by omega
  have a1 : (c.toNat : Int) ≤ 102 := by omega
  have a2 : ¬ (c.toNat : Int) ≤ 57 := by omega
  have a3 : (48 : Int) ≤ (c.toNat : Int) := by omega
  have HE : Hid ((c.toNat : Int) - 87 = (c.toNat : Int) - 97 + 10) := by rw [Hid]; omega
  clear h0 h1
  go_enter Tryz.func196, Tryz.ntmps196
  go_wp2
  go_ret2
  exact ⟨by rw [HE.out]; rfl, rfl⟩
theorem first_no (x : Int) (w : World) (h0 : 0 ≤ x) (h1 : x < 55296) : Calls Tryz.prog 188 #[.int .i32 x] w fun e w' => e = .returned (.bool false) ∧ w = w' := by
  have a : ¬ 55296 ≤ x := by omega
  go_enter Tryz.func188, Tryz.ntmps188
  go_wp2
  go_ret
  exact ⟨rfl, rfl⟩
theorem second_no (x : Int) (w : World) (h0 : 0 ≤ x) (h1 : x < 55296) : Calls Tryz.prog 190 #[.int .i32 x] w fun e w' => e = .returned (.bool false) ∧ w = w' := by
  have a : ¬ 56320 ≤ x := by omega
  go_enter Tryz.func190, Tryz.ntmps190
  go_wp2
  go_ret
  exact ⟨rfl, rfl⟩
theorem mark_yes (b : Nat) (rest : List UInt8) (v : Value) (text : List UInt8) (w : World) (h : Rdr w b (34 :: rest) v text) : Calls Tryz.prog 146 #[.pointer (some ⟨b, 0, none⟩)] w fun e w' => e = .returned (.bool true) ∧ w = w' := by
  have c0 := h.c0
  obtain ⟨p1, p2, _, p4⟩ := bs_cons 34 rest
  generalize bs (34 :: rest) = r at *
  clear h
  go_enter Tryz.func146, Tryz.ntmps146
  go_wp2
  go_ret
  exact ⟨rfl, rfl⟩
theorem mark_no (b : Nat) (c : UInt8) (rest : List UInt8) (v : Value) (text : List UInt8) (w : World) (hc : c.toNat ≠ 34) (h : Rdr w b (c :: rest) v text) : Calls Tryz.prog 146 #[.pointer (some ⟨b, 0, none⟩)] w fun e w' => e = .returned (.bool false) ∧ w = w' := by
  have c0 := h.c0
  obtain ⟨p1, p2, _, p4⟩ := bs_cons c rest
  generalize bs (c :: rest) = r at *
  have e1 : ((c.toNat : Int) == 34) = false := by rw [beq_eq_false_iff_ne]; omega
  clear h hc
  go_enter Tryz.func146, Tryz.ntmps146
  go_wp2
  go_ret
  exact ⟨rfl, rfl⟩
/-! ### four digits -/
def isDig (c : UInt8) : Prop := (48 ≤ c.toNat ∧ c.toNat ≤ 57) ∨ (97 ≤ c.toNat ∧ c.toNat ≤ 102)
def dv (c : UInt8) : Int := if c.toNat ≤ 57 then (c.toNat : Int) - 48 else (c.toNat : Int) - 87
theorem dv_bd {c : UInt8} (h : isDig c) : 0 ≤ dv c ∧ dv c ≤ 15 := by
  unfold dv
  unfold isDig at h
  split <;> omega
theorem digit_any (c : UInt8) (w : World) (h : isDig c) : Calls Tryz.prog 196 #[.int .u8 (c.toNat : Int)] w fun e w' => e = .returned (.tuple #[.int .i32 (dv c), .bool true]) ∧ w = w' := by
  rcases h with h | h
  · rw [dv, if_pos h.2]
    exact digit_num c w h.1 h.2
  · rw [dv, if_neg (by omega)]
    exact digit_low c w h.1 h.2
def valD (l : List UInt8) : Int := l.foldl (fun a c => a * 16 + dv c) 0
theorem valD_snoc (l : List UInt8) (c : UInt8) : valD (l ++ [c]) = valD l * 16 + dv c := by simp [valD]
theorem valD_bd (l : List UInt8) (hl : l.length ≤ 3) (hd : ∀ c ∈ l, isDig c) : 0 ≤ valD l ∧ valD l ≤ 4095 := by
  rcases l with _ | ⟨a, _ | ⟨b, _ | ⟨c, _ | ⟨d, l⟩⟩⟩⟩
  · simp [valD]
  · have := dv_bd (hd a (by simp))
    simp [valD]; omega
  · have := dv_bd (hd a (by simp)); have := dv_bd (hd b (by simp))
    simp [valD]; omega
  · have := dv_bd (hd a (by simp)); have := dv_bd (hd b (by simp)); have := dv_bd (hd c (by simp))
    simp [valD]; omega
  · simp at hl
theorem take_four {ds : List UInt8} {k : Nat} (h : k < ds.length) : ds.take (k + 1) = ds.take k ++ [ds[k]] := by
  rw [List.take_succ_eq_append_getElem h]
set_option maxRecDepth 100000 in
set_option maxHeartbeats 2000000 in
theorem number_any (b : Nat) (ds rest : List UInt8) (v : Value) (text : List UInt8) (w : World) (h4 : ds.length = 4) (hd : ∀ c ∈ ds, isDig c) (h : Rdr w b (ds ++ rest) v text) :
    Calls Tryz.prog 187 #[.pointer (some ⟨b, 0, none⟩)] w fun e w' => e = .returned (.tuple #[.int .i32 (valD ds), .int .i64 0]) ∧ Rdr w' b rest v text ∧ Below b w w' := by
  have H := Lib.hid h
  have HD := Lib.hid hd
  have H4 := Lib.hid h4
  clear h hd h4
  go_enter Tryz.func187, Tryz.ntmps187
  go_wp2
  go_loopw [4, 7] (fun a4 a7 wr => ∃ (k : Nat) (n : Int), k ≤ 4 ∧ a7 = .int .i64 k ∧ a4 = .int .i32 n ∧ Hid (n = valD (ds.take k)) ∧ Hid (Rdr wr b (ds.drop k ++ rest) v text) ∧ Hid (Below b w wr)) (fun _ a7 _ => 4 - (intOf a7).toNat)
  case atStart => exact ⟨0, 0, by omega, rfl, rfl, rfl, by rw [Hid, List.drop_zero]; exact H.out, Below.refl _ _⟩
  case round =>
    obtain ⟨k, n, hk, rfl, rfl, HN, HR, HB⟩ := hrel
    by_cases hlt : k < 4
    · have hk4 : k < ds.length := by rw [H4.out]; exact hlt
      have HT : Hid (valD (ds.take (k + 1)) = n * 16 + dv ds[k]) := by rw [Hid, take_four hk4, valD_snoc, HN.out]
      have hbd : 0 ≤ n ∧ n ≤ 4095 := by
        rw [HN.out]
        exact valD_bd _ (by rw [List.length_take]; omega) (fun c hc => HD.out c (List.mem_of_mem_take hc))
      obtain ⟨n0, n1⟩ := hbd
      have hc0 := HD.out ds[k] (List.getElem_mem hk4)
      have hR := HR.out
      rw [List.drop_eq_getElem_cons hk4, List.cons_append] at hR
      generalize ds[k] = c at *
      have hdv := dv_bd hc0
      obtain ⟨d0, d1⟩ := hdv
      have HC := Lib.hid hc0
      clear hc0
      have c0 := hR.c0
      have f0 := hR.f0
      have HR1 := Lib.hid (hR.set0 (r2 := ds.drop (k + 1) ++ rest))
      obtain ⟨p1, p2, p3, p4⟩ := bs_cons c (ds.drop (k + 1) ++ rest)
      generalize bs (c :: (ds.drop (k + 1) ++ rest)) = r at *
      generalize bs (ds.drop (k + 1) ++ rest) = r1 at *
      have HDG := Lib.hid (fun W => digit_any c W HC.out)
      generalize dv c = d at *
      clear hR
      go_wp2_with fail
      refine (HDG.out _).mono ?_
      rintro e w' ⟨rfl, rfl⟩
      go_wp2
      go_roundw
      case rel => exact ⟨k + 1, n * 16 + d, by omega, by go_num, rfl, HT.out.symm, HR1.out, HB.out.trans Rdr.below0⟩
      case measure => simp [intOf]; omega
    · obtain rfl : k = 4 := by omega
      have hR := HR.out
      rw [List.drop_eq_nil_of_le (by rw [H4.out]; exact Nat.le_refl _), List.nil_append] at hR
      have HR2 := Lib.hid hR
      have hn := HN.out
      rw [List.take_of_length_le (by rw [H4.out]; exact Nat.le_refl _)] at hn
      have HN2 := Lib.hid hn
      clear hR hn HR HN
      go_wp2
      go_ret2
      exact ⟨by rw [← HN2.out]; rfl, HR2.out, HB.out⟩
set_option maxRecDepth 100000 in
set_option maxHeartbeats 1000000 in
theorem escape_98 (b : Nat) (rest : List UInt8) (v : Value) (text : List UInt8) (w : World) (hl : text.length ≤ 1000000) (h : Rdr w b (98 :: rest) v text) : Calls Tryz.prog 166 #[.pointer (some ⟨b, 0, none⟩)] w (Reads w b rest (text ++ [8]) 0) := by
  obtain ⟨i0, hi, hz0, hz1, hz2⟩ := info_parts info5
  have c0 := h.c0
  have c1 := h.c1
  have f0 := h.f0
  have f1 := h.f1
  have H1 := Lib.hid (h.set0 (r2 := rest))
  have hx := Lib.hid (show Lib.indexByte (⟨#[98, 102, 110, 114, 116]⟩ : ByteArray).data.toList (98 : Int).toNat.toUInt8 = 0 by decide)
  have hbw := lt_of_at h.box
  obtain ⟨p1, p2, p3, p4⟩ := bs_cons 98 rest
  generalize bs (98 :: rest) = r at *
  generalize bs rest = r1 at *
  clear h
  go_enter Tryz.func166, Tryz.ntmps166
  go_wp2_with (first
    | (go_at_call 169; refine (idx_any _ _ _ _ hx.out).mono ?_; rintro e w' ⟨rfl, rfl⟩)
    | (at_builtin; refine wpList_append_lies _ rfl _ _ 98 rfl (b + 1) 5 i0 (.int .u8 0) 1 1 Tryz.underlying98 hi hz0 hz1 hz2 rfl (by decide) v text.length (vals text) rfl (H1.out.buf.alloc _) ⟨w.heap.size, 0, none⟩ 1 1 (vals [8]) rfl rfl (news_set w _ _ _ _ rfl) (vals_one _) (by decide) (by unfold maxLen; omega) (by omega) (by simp; omega) (w.heap.size + 1) (by simp) ?_; intro g cap w2 hown hgrow hat hlt; have HP := Lib.hid (H1.out.push (Buf.more hown rfl) (grown_alloc hgrow)); clear hown hgrow hat hlt; have d1 := HP.out.c1; have d2 := HP.out.f1; have d3 := HP.out.lt))
  go_ret
  exact ⟨rfl, ⟨_, HP.out.rdr⟩, Rdr.below0.trans HP.out.below⟩
set_option maxRecDepth 100000 in
set_option maxHeartbeats 1000000 in
theorem escape_102 (b : Nat) (rest : List UInt8) (v : Value) (text : List UInt8) (w : World) (hl : text.length ≤ 1000000) (h : Rdr w b (102 :: rest) v text) : Calls Tryz.prog 166 #[.pointer (some ⟨b, 0, none⟩)] w (Reads w b rest (text ++ [12]) 0) := by
  obtain ⟨i0, hi, hz0, hz1, hz2⟩ := info_parts info5
  have c0 := h.c0
  have c1 := h.c1
  have f0 := h.f0
  have f1 := h.f1
  have H1 := Lib.hid (h.set0 (r2 := rest))
  have hx := Lib.hid (show Lib.indexByte (⟨#[98, 102, 110, 114, 116]⟩ : ByteArray).data.toList (102 : Int).toNat.toUInt8 = 1 by decide)
  have hbw := lt_of_at h.box
  obtain ⟨p1, p2, p3, p4⟩ := bs_cons 102 rest
  generalize bs (102 :: rest) = r at *
  generalize bs rest = r1 at *
  clear h
  go_enter Tryz.func166, Tryz.ntmps166
  go_wp2_with (first
    | (go_at_call 169; refine (idx_any _ _ _ _ hx.out).mono ?_; rintro e w' ⟨rfl, rfl⟩)
    | (at_builtin; refine wpList_append_lies _ rfl _ _ 98 rfl (b + 1) 5 i0 (.int .u8 0) 1 1 Tryz.underlying98 hi hz0 hz1 hz2 rfl (by decide) v text.length (vals text) rfl (H1.out.buf.alloc _) ⟨w.heap.size, 0, none⟩ 1 1 (vals [12]) rfl rfl (news_set w _ _ _ _ rfl) (vals_one _) (by decide) (by unfold maxLen; omega) (by omega) (by simp; omega) (w.heap.size + 1) (by simp) ?_; intro g cap w2 hown hgrow hat hlt; have HP := Lib.hid (H1.out.push (Buf.more hown rfl) (grown_alloc hgrow)); clear hown hgrow hat hlt; have d1 := HP.out.c1; have d2 := HP.out.f1; have d3 := HP.out.lt))
  go_ret
  exact ⟨rfl, ⟨_, HP.out.rdr⟩, Rdr.below0.trans HP.out.below⟩
set_option maxRecDepth 100000 in
set_option maxHeartbeats 1000000 in
theorem escape_110 (b : Nat) (rest : List UInt8) (v : Value) (text : List UInt8) (w : World) (hl : text.length ≤ 1000000) (h : Rdr w b (110 :: rest) v text) : Calls Tryz.prog 166 #[.pointer (some ⟨b, 0, none⟩)] w (Reads w b rest (text ++ [10]) 0) := by
  obtain ⟨i0, hi, hz0, hz1, hz2⟩ := info_parts info5
  have c0 := h.c0
  have c1 := h.c1
  have f0 := h.f0
  have f1 := h.f1
  have H1 := Lib.hid (h.set0 (r2 := rest))
  have hx := Lib.hid (show Lib.indexByte (⟨#[98, 102, 110, 114, 116]⟩ : ByteArray).data.toList (110 : Int).toNat.toUInt8 = 2 by decide)
  have hbw := lt_of_at h.box
  obtain ⟨p1, p2, p3, p4⟩ := bs_cons 110 rest
  generalize bs (110 :: rest) = r at *
  generalize bs rest = r1 at *
  clear h
  go_enter Tryz.func166, Tryz.ntmps166
  go_wp2_with (first
    | (go_at_call 169; refine (idx_any _ _ _ _ hx.out).mono ?_; rintro e w' ⟨rfl, rfl⟩)
    | (at_builtin; refine wpList_append_lies _ rfl _ _ 98 rfl (b + 1) 5 i0 (.int .u8 0) 1 1 Tryz.underlying98 hi hz0 hz1 hz2 rfl (by decide) v text.length (vals text) rfl (H1.out.buf.alloc _) ⟨w.heap.size, 0, none⟩ 1 1 (vals [10]) rfl rfl (news_set w _ _ _ _ rfl) (vals_one _) (by decide) (by unfold maxLen; omega) (by omega) (by simp; omega) (w.heap.size + 1) (by simp) ?_; intro g cap w2 hown hgrow hat hlt; have HP := Lib.hid (H1.out.push (Buf.more hown rfl) (grown_alloc hgrow)); clear hown hgrow hat hlt; have d1 := HP.out.c1; have d2 := HP.out.f1; have d3 := HP.out.lt))
  go_ret
  exact ⟨rfl, ⟨_, HP.out.rdr⟩, Rdr.below0.trans HP.out.below⟩
set_option maxRecDepth 100000 in
set_option maxHeartbeats 1000000 in
theorem escape_114 (b : Nat) (rest : List UInt8) (v : Value) (text : List UInt8) (w : World) (hl : text.length ≤ 1000000) (h : Rdr w b (114 :: rest) v text) : Calls Tryz.prog 166 #[.pointer (some ⟨b, 0, none⟩)] w (Reads w b rest (text ++ [13]) 0) := by
  obtain ⟨i0, hi, hz0, hz1, hz2⟩ := info_parts info5
  have c0 := h.c0
  have c1 := h.c1
  have f0 := h.f0
  have f1 := h.f1
  have H1 := Lib.hid (h.set0 (r2 := rest))
  have hx := Lib.hid (show Lib.indexByte (⟨#[98, 102, 110, 114, 116]⟩ : ByteArray).data.toList (114 : Int).toNat.toUInt8 = 3 by decide)
  have hbw := lt_of_at h.box
  obtain ⟨p1, p2, p3, p4⟩ := bs_cons 114 rest
  generalize bs (114 :: rest) = r at *
  generalize bs rest = r1 at *
  clear h
  go_enter Tryz.func166, Tryz.ntmps166
  go_wp2_with (first
    | (go_at_call 169; refine (idx_any _ _ _ _ hx.out).mono ?_; rintro e w' ⟨rfl, rfl⟩)
    | (at_builtin; refine wpList_append_lies _ rfl _ _ 98 rfl (b + 1) 5 i0 (.int .u8 0) 1 1 Tryz.underlying98 hi hz0 hz1 hz2 rfl (by decide) v text.length (vals text) rfl (H1.out.buf.alloc _) ⟨w.heap.size, 0, none⟩ 1 1 (vals [13]) rfl rfl (news_set w _ _ _ _ rfl) (vals_one _) (by decide) (by unfold maxLen; omega) (by omega) (by simp; omega) (w.heap.size + 1) (by simp) ?_; intro g cap w2 hown hgrow hat hlt; have HP := Lib.hid (H1.out.push (Buf.more hown rfl) (grown_alloc hgrow)); clear hown hgrow hat hlt; have d1 := HP.out.c1; have d2 := HP.out.f1; have d3 := HP.out.lt))
  go_ret
  exact ⟨rfl, ⟨_, HP.out.rdr⟩, Rdr.below0.trans HP.out.below⟩
set_option maxRecDepth 100000 in
set_option maxHeartbeats 1000000 in
theorem escape_116 (b : Nat) (rest : List UInt8) (v : Value) (text : List UInt8) (w : World) (hl : text.length ≤ 1000000) (h : Rdr w b (116 :: rest) v text) : Calls Tryz.prog 166 #[.pointer (some ⟨b, 0, none⟩)] w (Reads w b rest (text ++ [9]) 0) := by
  obtain ⟨i0, hi, hz0, hz1, hz2⟩ := info_parts info5
  have c0 := h.c0
  have c1 := h.c1
  have f0 := h.f0
  have f1 := h.f1
  have H1 := Lib.hid (h.set0 (r2 := rest))
  have hx := Lib.hid (show Lib.indexByte (⟨#[98, 102, 110, 114, 116]⟩ : ByteArray).data.toList (116 : Int).toNat.toUInt8 = 4 by decide)
  have hbw := lt_of_at h.box
  obtain ⟨p1, p2, p3, p4⟩ := bs_cons 116 rest
  generalize bs (116 :: rest) = r at *
  generalize bs rest = r1 at *
  clear h
  go_enter Tryz.func166, Tryz.ntmps166
  go_wp2_with (first
    | (go_at_call 169; refine (idx_any _ _ _ _ hx.out).mono ?_; rintro e w' ⟨rfl, rfl⟩)
    | (at_builtin; refine wpList_append_lies _ rfl _ _ 98 rfl (b + 1) 5 i0 (.int .u8 0) 1 1 Tryz.underlying98 hi hz0 hz1 hz2 rfl (by decide) v text.length (vals text) rfl (H1.out.buf.alloc _) ⟨w.heap.size, 0, none⟩ 1 1 (vals [9]) rfl rfl (news_set w _ _ _ _ rfl) (vals_one _) (by decide) (by unfold maxLen; omega) (by omega) (by simp; omega) (w.heap.size + 1) (by simp) ?_; intro g cap w2 hown hgrow hat hlt; have HP := Lib.hid (H1.out.push (Buf.more hown rfl) (grown_alloc hgrow)); clear hown hgrow hat hlt; have d1 := HP.out.c1; have d2 := HP.out.f1; have d3 := HP.out.lt))
  go_ret
  exact ⟨rfl, ⟨_, HP.out.rdr⟩, Rdr.below0.trans HP.out.below⟩
set_option maxRecDepth 100000 in
set_option maxHeartbeats 1000000 in
theorem escape_34 (b : Nat) (rest : List UInt8) (v : Value) (text : List UInt8) (w : World) (hl : text.length ≤ 1000000) (h : Rdr w b (34 :: rest) v text) : Calls Tryz.prog 166 #[.pointer (some ⟨b, 0, none⟩)] w (Reads w b rest (text ++ [34]) 0) := by
  obtain ⟨i0, hi, hz0, hz1, hz2⟩ := info_parts info5
  have c0 := h.c0
  have c1 := h.c1
  have f0 := h.f0
  have f1 := h.f1
  have H1 := Lib.hid (h.set0 (r2 := rest))
  have hbw := lt_of_at h.box
  obtain ⟨p1, p2, p3, p4⟩ := bs_cons 34 rest
  generalize bs (34 :: rest) = r at *
  generalize bs rest = r1 at *
  clear h
  go_enter Tryz.func166, Tryz.ntmps166
  go_wp2_with (first
    | (at_builtin; refine wpList_append_lies _ rfl _ _ 98 rfl (b + 1) 5 i0 (.int .u8 0) 1 1 Tryz.underlying98 hi hz0 hz1 hz2 rfl (by decide) v text.length (vals text) rfl (H1.out.buf.alloc _) ⟨w.heap.size, 0, none⟩ 1 1 (vals [34]) rfl rfl (news_set w _ _ _ _ rfl) (vals_one _) (by decide) (by unfold maxLen; omega) (by omega) (by simp; omega) (w.heap.size + 1) (by simp) ?_; intro g cap w2 hown hgrow hat hlt; have HP := Lib.hid (H1.out.push (Buf.more hown rfl) (grown_alloc hgrow)); clear hown hgrow hat hlt; have d1 := HP.out.c1; have d2 := HP.out.f1; have d3 := HP.out.lt))
  go_ret
  exact ⟨rfl, ⟨_, HP.out.rdr⟩, Rdr.below0.trans HP.out.below⟩
set_option maxRecDepth 100000 in
set_option maxHeartbeats 1000000 in
theorem escape_92 (b : Nat) (rest : List UInt8) (v : Value) (text : List UInt8) (w : World) (hl : text.length ≤ 1000000) (h : Rdr w b (92 :: rest) v text) : Calls Tryz.prog 166 #[.pointer (some ⟨b, 0, none⟩)] w (Reads w b rest (text ++ [92]) 0) := by
  obtain ⟨i0, hi, hz0, hz1, hz2⟩ := info_parts info5
  have c0 := h.c0
  have c1 := h.c1
  have f0 := h.f0
  have f1 := h.f1
  have H1 := Lib.hid (h.set0 (r2 := rest))
  have hbw := lt_of_at h.box
  obtain ⟨p1, p2, p3, p4⟩ := bs_cons 92 rest
  generalize bs (92 :: rest) = r at *
  generalize bs rest = r1 at *
  clear h
  go_enter Tryz.func166, Tryz.ntmps166
  go_wp2_with (first
    | (at_builtin; refine wpList_append_lies _ rfl _ _ 98 rfl (b + 1) 5 i0 (.int .u8 0) 1 1 Tryz.underlying98 hi hz0 hz1 hz2 rfl (by decide) v text.length (vals text) rfl (H1.out.buf.alloc _) ⟨w.heap.size, 0, none⟩ 1 1 (vals [92]) rfl rfl (news_set w _ _ _ _ rfl) (vals_one _) (by decide) (by unfold maxLen; omega) (by omega) (by simp; omega) (w.heap.size + 1) (by simp) ?_; intro g cap w2 hown hgrow hat hlt; have HP := Lib.hid (H1.out.push (Buf.more hown rfl) (grown_alloc hgrow)); clear hown hgrow hat hlt; have d1 := HP.out.c1; have d2 := HP.out.f1; have d3 := HP.out.lt))
  go_ret
  exact ⟨rfl, ⟨_, HP.out.rdr⟩, Rdr.below0.trans HP.out.below⟩
end Go.Proofs.YtldncgelghcjeaaGreatDoor
namespace Go.Proofs.YtldncgelghcjeaaGreatDoor
open Go.ChangeShapes Go.WideShapes Go.ChangeAt Go.RowKit
attribute [local go_sem ↓] Go.wp_at_zero Go.wp_at_succ
variable {w : World}

/-- utf8.AppendRune at this program. -/
theorem rune_any (B : Nat) (v : Value) (l m : List UInt8) (r : Int) (w : World) (h0 : 0 ≤ r) (h1 : r ≤ 2147483647) (hl : l.length ≤ 1048576) (hB : B ≤ w.heap.size) (hb : Buf w B v l) (hm : Lib.runeCells r = vals m) (hm0 : 0 < m.length) :
    Calls Tryz.prog 191 #[v, .int .i32 r] w fun e w' => ∃ g n c : Nat, e = .returned (.slice (some ⟨g, 0, none⟩) n c) ∧ Buf w' B (.slice (some ⟨g, 0, none⟩) n c) (l ++ m) ∧ w.grownBy w' v.ownBlock := by
  refine (Any.utf8_AppendRune_plain Tryz.laysRune info5 B v l.length (vals l) r (by omega) h1 w hb (by omega) hB).mono ?_
  rintro e w' ⟨v', he, hown, o, hg⟩
  rw [hm, vals_length] at hown
  obtain ⟨g, cap, rfl, _⟩ := World.ownsRow.form hown (by omega)
  exact ⟨g, _, cap, he, Buf.more hown rfl, grown_alloc hg⟩
set_option maxRecDepth 100000 in
set_option maxHeartbeats 2000000 in
theorem byNumber_any (b : Nat) (ds rest : List UInt8) (v : Value) (text m : List UInt8) (w : World) (h4 : ds.length = 4) (hd : ∀ c ∈ ds, isDig c) (h0 : 0 ≤ valD ds) (h1 : valD ds < 55296) (hm : Lib.runeCells (valD ds) = vals m) (hm0 : 0 < m.length) (hl : text.length ≤ 1048576) (h : Rdr w b (ds ++ rest) v text) :
    Calls Tryz.prog 179 #[.pointer (some ⟨b, 0, none⟩)] w (Reads w b rest (text ++ m) 0) := by
  have HN := Lib.hid (number_any b ds rest v text w h4 hd h)
  have HM := Lib.hid hm
  generalize valD ds = n at *
  have h2 : n ≤ 2147483647 := by omega
  clear h h4 hd hm
  go_enter Tryz.func179, Tryz.ntmps179
  go_wp2_with fail
  refine HN.out.mono ?_
  rintro e w1 ⟨rfl, hr, hb1⟩
  have HR := Lib.hid hr
  have HB1 := Lib.hid hb1
  have c1 := hr.c1
  have hlt := lt_of_at hr.box
  clear hr hb1
  go_wp2_with fail
  refine (first_no n _ h0 h1).mono ?_
  rintro e w' ⟨rfl, rfl⟩
  go_wp2_with fail
  refine (second_no n _ h0 h1).mono ?_
  rintro e w' ⟨rfl, rfl⟩
  go_wp2_with fail
  refine (rune_any (b + 1) v text m n _ h0 h2 hl (by omega) HR.out.buf HM.out hm0).mono ?_
  rintro e w2 ⟨g2, n2, k2, rfl, hb2, hg2⟩
  have HP := Lib.hid (HR.out.push hb2 hg2)
  clear hb2 hg2
  have d1 := HP.out.c1
  have d2 := HP.out.f1
  have d3 := HP.out.lt
  go_wp2
  go_ret
  exact ⟨rfl, ⟨_, HP.out.rdr⟩, HB1.out.trans HP.out.below⟩
set_option maxRecDepth 100000 in
set_option maxHeartbeats 2000000 in
theorem escape_u (b : Nat) (rest r2 : List UInt8) (v : Value) (text t2 : List UInt8) (w : World) (h : Rdr w b (117 :: rest) v text)
    (hn : ∀ W, Rdr W b rest v text → Calls Tryz.prog 179 #[.pointer (some ⟨b, 0, none⟩)] W (Reads W b r2 t2 0)) :
    Calls Tryz.prog 166 #[.pointer (some ⟨b, 0, none⟩)] w (Reads w b r2 t2 0) := by
  have c0 := h.c0
  have f0 := h.f0
  have hbw := lt_of_at h.box
  have HN := Lib.hid (hn _ (h.set0 (r2 := rest)))
  obtain ⟨p1, p2, p3, p4⟩ := bs_cons 117 rest
  generalize bs (117 :: rest) = r at *
  generalize bs rest = r1 at *
  clear h hn
  go_enter Tryz.func166, Tryz.ntmps166
  go_wp2_with fail
  refine HN.out.mono ?_
  rintro e w2 ⟨rfl, hr2, hb2⟩
  go_wp2
  go_ret
  exact ⟨rfl, hr2, Rdr.below0.trans hb2⟩
set_option maxRecDepth 100000 in
set_option maxHeartbeats 2000000 in
theorem char_esc (b : Nat) (rest r2 : List UInt8) (v : Value) (text t2 : List UInt8) (w : World) (h : Rdr w b (92 :: rest) v text)
    (hn : ∀ W, Rdr W b rest v text → Calls Tryz.prog 166 #[.pointer (some ⟨b, 0, none⟩)] W (Reads W b r2 t2 0)) :
    Calls Tryz.prog 147 #[.pointer (some ⟨b, 0, none⟩)] w (Reads w b r2 t2 0) := by
  have c0 := h.c0
  have f0 := h.f0
  have hbw := lt_of_at h.box
  have HN := Lib.hid (hn _ (h.set0 (r2 := rest)))
  obtain ⟨p1, p2, p3, p4⟩ := bs_cons 92 rest
  generalize bs (92 :: rest) = r at *
  generalize bs rest = r1 at *
  clear h hn
  go_enter Tryz.func147, Tryz.ntmps147
  go_wp2_with fail
  refine HN.out.mono ?_
  rintro e w2 ⟨rfl, hr2, hb2⟩
  go_wp2
  go_ret
  exact ⟨rfl, hr2, Rdr.below0.trans hb2⟩
/-- The library's tables lie as its text lays them. -/
def Tabs (w : World) : Prop := Lib.Utf8Tabs (Tryz.laysValid_ren.g 3) (Tryz.laysValid_ren.g 4) w
theorem valid_any (s : ByteArray) (w : World) (hs : s.size ≤ 1048576) (hT : Tabs w) : Calls Tryz.prog 181 #[.string s] w fun e w' => e = .returned (.bool (Lib.validD s.data.toList)) ∧ Fresh w w' :=
  Any.utf8_ValidString Tryz.laysValid s w (by omega) hT
theorem isValid_any (s : ByteArray) (w : World) (hs : s.size ≤ 1048576) (hT : Tabs w) : Calls Tryz.prog 168 #[.string s] w fun e w' => e = .returned (.bool (Lib.validD s.data.toList)) ∧ Fresh w w' := by
  have HV := Lib.hid (valid_any s w hs hT)
  generalize Lib.validD s.data.toList = x at *
  clear hT
  go_enter Tryz.func168, Tryz.ntmps168
  go_wp2_with fail
  refine HV.out.mono ?_
  rintro e w1 ⟨rfl, hf⟩
  go_wp2
  go_ret
  exact ⟨rfl, hf⟩
theorem decode_any (s : ByteArray) (w : World) (hT : Tabs w) : Calls Tryz.prog 167 #[.string s] w fun e w' => e = .returned (.tuple #[.int .i32 (Lib.decodeGo s).1, .int .i64 (Lib.decodeGo s).2]) ∧ Fresh w w' :=
  Any.utf8_DecodeRuneInString Tryz.laysDecode s w hT
end Go.Proofs.YtldncgelghcjeaaGreatDoor
namespace Go.Proofs.YtldncgelghcjeaaGreatDoor
open Go.ChangeShapes Go.WideShapes Go.ChangeAt Go.RowKit
attribute [local go_sem ↓] Go.wp_at_zero Go.wp_at_succ
variable {w : World}

theorem bs_take (n : Nat) (l : List UInt8) : (bs l).extract 0 n = bs (l.take n) := by
  apply ByteArray.ext
  apply Array.toList_inj.1
  rw [ByteArray.data_extract, Array.toList_extract, bs_toList, bs_toList]
  simp
theorem strCells_bs (l : List UInt8) : Lib.strCells (bs l) = vals l := by
  rw [Lib.strCells, bs_toList]
  rfl
theorem Tabs.move {w w' : World} (h : Tabs w) (f : Fresh w w') : Tabs w' := Utf8Tabs_below h f
/-- append(.., s...) at a step of a region that draws its order. -/
theorem step_append_string {P : Program} {ops : Array Oper} {o : Oper} {a : Act} {w : World} {K : Act → World → Prop} {Q : Exit → Act → World → Prop} {E : Prop} (hgd : o.guard = none) (sl x : Operand) (t u : TypeId)
    (ho : o.op = .call { callee := .builtin .append, args := #[sl, x], argTypes := #[t, u] })
    (base : Nat) (e : TypeId) (i : TypeInfo) (ht : P.underlying t = some (.slice e)) (hu : P.underlying u = some .string) (hi : P.info? e = some i) (hz : i.zero = some (.int .u8 0))
    (hsize : i.size = 1) (hby : i.bytes = 1)
    (v : Value) (n : Nat) (xs : List Value) (hs : a.eval sl = v) (hown : w.ownsRow base e 1 v n xs) (s : ByteArray) (hx : a.eval x = .string s)
    (h63 : n + s.size ≤ maxLen) (hbytes : n + s.size ≤ 140737488355328) (hbase : base ≤ w.heap.size)
    (h : ∀ v' w', w'.ownsRow base e 1 v' (n + s.size) (xs ++ Lib.strCells s) → w.grownBy w' v.ownBlock → K (a.put o.dst v') w') :
    if Region.wanted o (yielded ops a.tmps) = true then Oper.wp P o a w K Q else E := by
  have hw : Region.wanted o (yielded ops a.tmps) = true := by simp [Region.wanted, hgd]
  rw [if_pos hw]
  obtain ⟨v', w', hr, h2, h3, h4⟩ := Lib.run_append_own_string (P := P) w base t u o.type e i ht hu hi hz hsize hby v n xs hown s h63 hbytes hbase
  unfold Oper.wp execOp
  simp only [ho, resolve, invoke, builtin, Sem.run_bind, Sem.run_pure, Result.andThen_ok, List.map_toArray, List.map_cons, List.map_nil, hs, hx, hr]
  exact h v' w' h2 h3
set_option maxRecDepth 100000 in
set_option maxHeartbeats 4000000 in
theorem char_plain (b : Nat) (c : UInt8) (cs rest : List UInt8) (v : Value) (text : List UInt8) (w : World) (hT : Tabs w) (h0 : 32 ≤ c.toNat) (h1 : c.toNat ≠ 92) (hd : (Lib.decodeGo (bs (c :: cs ++ rest))).2 = (c :: cs).length) (hv : Lib.validD (c :: cs) = true) (hcl : (c :: cs).length ≤ 4)
    (hl : text.length ≤ 100000) (h : Rdr w b (c :: cs ++ rest) v text) : Calls Tryz.prog 147 #[.pointer (some ⟨b, 0, none⟩)] w (Reads w b rest (text ++ (c :: cs)) 0) := by
  obtain ⟨i0, hi, hz0, hz1, hz2⟩ := info_parts info5
  have HR := Lib.hid h
  have HB0 := Lib.hid (lt_of_at h.box)
  have HT := Lib.hid hT
  have c0 := h.c0
  have e1 : ((c.toNat : Int) == 92) = false := by rw [beq_eq_false_iff_ne]; omega
  have e2 : ¬ (c.toNat : Int) < 32 := by omega
  obtain ⟨p1, p2, _, p4⟩ := (show Cons (bs (c :: cs ++ rest)) c (bs (cs ++ rest)) from bs_cons c (cs ++ rest))
  have q1 : (bs (c :: cs ++ rest)).extract 0 (c :: cs).length = bs (c :: cs) := by rw [bs_take, List.take_left]
  have q2 : (bs (c :: cs ++ rest)).extract (c :: cs).length (bs (c :: cs ++ rest)).size = bs rest := by rw [bs_drop, List.drop_left]
  have q3 : (((c :: cs).length : Nat) : Int) ≤ ((bs (c :: cs ++ rest)).size : Int) := by rw [bs_size, List.length_append]; omega
  have q4 : 0 < (c :: cs).length := by simp
  have HV : Hid (Lib.validD (bs (c :: cs)).data.toList = true) := by rw [Hid, bs_toList]; exact hv
  have HQ : Hid ((bs (c :: cs)).size = (c :: cs).length) := bs_size _
  have HS : Hid (Lib.strCells (bs (c :: cs)) = vals (c :: cs)) := strCells_bs _
  have HDE : Hid (∀ W, Tabs W → Calls Tryz.prog 167 #[.string (bs (c :: cs ++ rest))] W fun e w' => (∃ x : Int, e = .returned (.tuple #[.int .i32 x, .int .i64 (((c :: cs).length : Nat) : Int)])) ∧ Fresh W w') := fun W hW => by
    refine (decode_any _ W hW).mono ?_
    rintro e w' ⟨he, hf⟩
    rw [hd] at he
    exact ⟨⟨_, he⟩, hf⟩
  clear h hT hd hv h0 h1
  generalize hn : (c :: cs).length = n at *
  generalize hR : bs (c :: cs ++ rest) = R at *
  generalize hq : bs (c :: cs) = q at *
  generalize hr1 : bs rest = r1 at *
  have HN := Lib.hid hn
  have HRE := Lib.hid hR
  have HR1 := Lib.hid hr1
  clear hn hR hq hr1
  go_enter Tryz.func147, Tryz.ntmps147
  go_wp2_with fail
  refine (HDE.out _ HT.out).mono ?_
  rintro e w1 ⟨⟨x, rfl⟩, hf1⟩
  have hr := HR.out.fresh hf1
  have d0 := hr.c0
  rw [HRE.out] at d0
  have d1 := hr.c1
  have hlt := lt_of_at hr.box
  have HF1 := Lib.hid hf1
  have HRR := Lib.hid hr
  clear hf1 hr c0
  go_wp2_with fail
  refine (isValid_any q _ (by rw [HQ.out]; omega) (HT.out.move HF1.out)).mono ?_
  rintro e w2 ⟨rfl, hf2⟩
  rw [HV.out]
  have hr := HRR.out.fresh hf2
  have d0' := hr.c0
  rw [HRE.out] at d0'
  have d1' := hr.c1
  have hlt' := lt_of_at hr.box
  have HF2 := Lib.hid (HF1.out.trans hf2)
  have HRR2 := Lib.hid hr
  have k1 : text.length + q.size ≤ maxLen := by rw [HQ.out]; unfold maxLen; omega
  have k2 : text.length + q.size ≤ 140737488355328 := by rw [HQ.out]; omega
  have K1 := Lib.hid k1
  have K4 : Hid (0 < text.length + q.size) := by rw [Hid, HQ.out]; omega
  have K2 := Lib.hid k2
  have K3 : Hid (b + 1 ≤ w2.heap.size) := hlt'
  clear hf2 hr d0 d1 hlt HRR k1 k2
  go_wp2_with fail
  go_region_law ((refine step_append_string (by rfl) _ _ 98 9 (by rfl) (b + 1) 5 i0 Tryz.underlying98 Tryz.underlying9 hi hz0 hz1 hz2 v text.length (vals text) (by rfl) HRR2.out.buf q (by rfl) K1.out K2.out K3.out ?_; intro v3 w3 hown hg; obtain ⟨g3, cap3, rfl, _⟩ := World.ownsRow.form hown K4.out; have HP := Lib.hid (HRR2.out.push (m := c :: cs) (by rw [HQ.out, HS.out] at hown; exact Buf.more hown HN.out) ⟨hg.os, hg.tape, hg.output, hg.size, hg.block⟩); clear hown hg; have g1 := HP.out.c1; have g2 := HP.out.f1; have g4 := HP.out.lt))
  all_goals
    have s0 := HP.out.c0
    rw [HRE.out] at s0
    have s1 := HP.out.f0
    have HS2 := Lib.hid (HP.out.rdr.set0 (r2 := rest))
    rw [HR1.out] at HS2
    go_wp2
    go_ret
    rw [HQ.out]
    exact ⟨rfl, ⟨_, HS2.out⟩, ((Below.mono HF2.out (Nat.le_of_lt HB0.out)).trans HP.out.below).trans Rdr.below0⟩
end Go.Proofs.YtldncgelghcjeaaGreatDoor
namespace Go.Proofs.YtldncgelghcjeaaGreatDoor
open Go.ChangeShapes Go.WideShapes Go.ChangeAt Go.RowKit
theorem textFault_any (s : ByteArray) (w : World) (hs : s.size ≤ 1048576) (hT : Tabs w) : Calls Tryz.prog 175 #[.string s] w fun e w' => e = .returned (.int .i64 (textE s)) ∧ Fresh w w' := by
  have HU := Lib.hid (isValid_any s w hs hT)
  have HT : Hid (textE s = if Lib.validD s.data.toList = true then (if 4096 < s.size then 2 else 0) else 10) := rfl
  clear hT
  cases hv : Lib.validD s.data.toList with
  | false =>
    rw [hv] at HU HT
    have HT2 : Hid (textE s = 10) := HT.out
    clear HT hv
    generalize textE s = r at *
    go_enter Tryz.func175, Tryz.ntmps175
    go_wp2_with (fail)
    refine HU.out.mono ?_
    rintro e w1 ⟨rfl, hf⟩
    go_wp2
    go_ret
    exact ⟨ret_int HT2.out.symm, hf⟩
  | true =>
    rw [hv] at HU HT
    by_cases hl : 4096 < s.size
    · have HT2 : Hid (textE s = 2) := by rw [Hid, HT.out, if_pos rfl, if_pos hl]
      clear HT hv
      generalize textE s = r at *
      go_enter Tryz.func175, Tryz.ntmps175
      go_wp2_with (fail)
      refine HU.out.mono ?_
      rintro e w1 ⟨rfl, hf⟩
      have hf := Lib.hid hf
      go_wp2
      all_goals try (exfalso; omega)
      go_ret
      exact ⟨ret_int HT2.out.symm, hf.out⟩
    · have HT2 : Hid (textE s = 0) := by rw [Hid, HT.out, if_pos rfl, if_neg hl]
      clear HT hv
      generalize textE s = r at *
      go_enter Tryz.func175, Tryz.ntmps175
      go_wp2_with (fail)
      refine HU.out.mono ?_
      rintro e w1 ⟨rfl, hf⟩
      have hf := Lib.hid hf
      go_wp2
      all_goals try (exfalso; omega)
      go_ret
      exact ⟨ret_int HT2.out.symm, hf.out⟩
end Go.Proofs.YtldncgelghcjeaaGreatDoor
namespace Go.Proofs.YtldncgelghcjeaaGreatDoor
open Go.ChangeShapes Go.WideShapes Go.ChangeAt Go.RowKit
set_option maxRecDepth 100000 in
theorem cmdFault_any (l : List ByteArray) (a : Option Addr) (c : Nat) (w : World) (hT : Tabs w) (h : RowAt w a (tcells l)) (hl : l.length ≤ 1048576) (hn : ∀ s ∈ l, s.size ≤ 1048576) :
    Calls Tryz.prog 157 #[.slice a l.length c] w fun e w' => e = .returned (.int .i64 (cmdE l)) ∧ Fresh w w' := by
  have HT := Lib.hid hT
  have HR := Lib.hid h
  have HN := Lib.hid hn
  clear hT h hn
  go_enter Tryz.func157, Tryz.ntmps157
  go_wp2
  go_loopw [8] (fun a8 wr => ∃ (k : Nat), a8 = .int .i64 (k : Int) ∧ k ≤ l.length ∧ Hid (cmdE l = cmdE (l.drop k)) ∧ Hid (Fresh w wr)) (fun a8 _ => l.length - (intOf a8).toNat)
  case atStart => exact ⟨0, rfl, Nat.zero_le _, rfl, Fresh.refl _⟩
  case round =>
    obtain ⟨k, rfl, hk, HE, HF⟩ := hrel
    by_cases hlt : k < l.length
    · obtain ⟨g, o1, rfl, hc⟩ := trow_form (HR.out.move HF.out) hlt
      have c0 := hc k hlt
      have HC := Lib.hid (textFault_any l[k] wr (HN.out _ (List.getElem_mem hlt)) (HT.out.move HF.out))
      have HST : Hid (cmdE l = if textE l[k] = 0 then cmdE (l.drop (k + 1)) else textE l[k]) := by
        rw [Hid, HE.out, List.drop_eq_getElem_cons hlt, cmdE]
      clear hc
      generalize l[k] = x at *
      generalize textE x = ec at *
      by_cases hx : ec = 0
      · have HN2 : Hid (cmdE l = cmdE (l.drop (k + 1))) := by rw [Hid, HST.out, if_pos hx]
        subst hx
        clear HST
        go_wp2_with (fail)
        refine HC.out.mono ?_
        rintro e w1 ⟨rfl, hf⟩
        have HF2 := Lib.hid (HF.out.trans hf)
        clear hf
        go_wp2
        all_goals try (exfalso; omega)
        go_roundw
        case rel => exact ⟨k + 1, by simp, by omega, HN2.out, HF2.out⟩
        case measure => simp [intOf]; omega
      · have HR2 : Hid (cmdE l = ec) := by rw [Hid, HST.out, if_neg hx]
        have e0 : (ec == 0) = false := by rw [beq_eq_false_iff_ne]; exact hx
        have e1 : (ec != 0) = true := by simp [hx]
        clear HST
        go_wp2_with (fail)
        refine HC.out.mono ?_
        rintro e w1 ⟨rfl, hf⟩
        have HF2 := Lib.hid (HF.out.trans hf)
        clear hf
        go_wp2
        all_goals try (exfalso; omega)
        go_ret
        exact ⟨ret_int HR2.out.symm, HF2.out⟩
    · obtain rfl : k = l.length := by omega
      have HR2 : Hid (cmdE l = 0) := by rw [Hid, HE.out, List.drop_length]; rfl
      go_wp2
      all_goals try (exfalso; omega)
      go_ret
      exact ⟨ret_int HR2.out.symm, HF.out⟩
end Go.Proofs.YtldncgelghcjeaaGreatDoor
