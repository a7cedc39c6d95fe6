/-
  Package utf's reader: what each of its methods does on the roads that quoted texts take.
  Package utf's reader: an escape by number, a character, and what Unquote makes of a quoted text.
  Package utf's reader: a character that stands as it is.
  What is wrong with a text, by package spec.
  What is wrong with a command's texts.
  What is wrong with ports.
  A map of texts that were met.
-/
import Derived.Test.YtfhhmajkacjbgaaDoorDck04
import Derived.Lib.AppendStr
import Derived.Deep.RegionHeld3
import Derived.Test.YtfhhmajkacjbgaaDoorDck02
import Derived.Deep.QuietTactic
import Derived.BigQuiet
import Derived.RegionTactic
import Derived.Test.YtfhhmajkacjbgaaDoorDck01
import Derived.Maps.Own
import Derived.Maps.OwnOps
import Derived.Maps.OwnSet
namespace Go.Proofs.YtfhhmajkacjbgaaDoor
open Go.ChangeShapes Go.WideShapes Go.ChangeAt Go.RowKit
attribute [local go_sem ↓] Go.wp_at_zero Go.wp_at_succ
variable {w : World}

def bs (l : List UInt8) : ByteArray := ⟨l.toArray⟩
theorem bs_toList (l : List UInt8) : (bs l).data.toList = l := by simp [bs]
theorem bs_size (l : List UInt8) : (bs l).size = l.length := by simp [bs, ByteArray.size]
theorem bs_drop (n : Nat) (l : List UInt8) : (bs l).extract n (bs l).size = bs (l.drop n) := by
  apply ByteArray.ext
  apply Array.toList_inj.1
  rw [ByteArray.data_extract, Array.toList_extract, bs_toList, bs_size, bs_toList]
  simp [List.take_of_length_le]
/-- The first byte, and the others. -/
structure Cons (r : ByteArray) (c : UInt8) (r1 : ByteArray) : Prop where
  pos : 0 < r.size
  get : r[0] = c
  cut : r.extract 1 r.size = r1
  ne : r.toList.isEmpty = false
theorem bs_cons (c : UInt8) (l : List UInt8) : Cons (bs (c :: l)) c (bs l) :=
  ⟨by rw [bs_size]; simp, rfl, bs_drop 1 (c :: l), by
    rw [Lib.toList_data, bs_toList]; rfl⟩
/-- A reader at block b: what it wasn't read yet, and what was read. -/
structure Rdr (w : World) (b : Nat) (rest : List UInt8) (v : Value) (text : List UInt8) : Prop where
  box : w.heap[b]? = some (.cells #[.string (bs rest), v] 103 (0, 0))
  buf : Buf w (b + 1) v text
theorem Rdr.c0 {w : World} {b : Nat} {rest : List UInt8} {v : Value} {text : List UInt8} (h : Rdr w b rest v text) : w.cell? ⟨b, 0, none⟩ = some (.string (bs rest)) := cell_of_at h.box rfl
theorem Rdr.c1 {w : World} {b : Nat} {rest : List UInt8} {v : Value} {text : List UInt8} (h : Rdr w b rest v text) : w.cell? ⟨b, 1, none⟩ = some v := cell_of_at h.box rfl
theorem Rdr.f0 {w : World} {b : Nat} {rest : List UInt8} {v : Value} {text : List UInt8} (h : Rdr w b rest v text) : w.frozen? ⟨b, 0, none⟩ = false := by simp [World.frozen?, h.box]
theorem Rdr.f1 {w : World} {b : Nat} {rest : List UInt8} {v : Value} {text : List UInt8} (h : Rdr w b rest v text) : w.frozen? ⟨b, 1, none⟩ = false := by simp [World.frozen?, h.box]
theorem Rdr.fresh {w w' : World} {b : Nat} {rest : List UInt8} {v : Value} {text : List UInt8} (h : Rdr w b rest v text) (f : Fresh w w') : Rdr w' b rest v text :=
  ⟨by rw [f.block b (lt_of_at h.box)]; exact h.box, h.buf.fresh f⟩
theorem Rdr.set0 {w : World} {b : Nat} {rest r2 : List UInt8} {v : Value} {text : List UInt8} (h : Rdr w b rest v text) : Rdr (w.setCell ⟨b, 0, none⟩ (.string (bs r2))) b r2 v text := by
  refine ⟨by simp [World.setCell, Array.getElem?_modify, h.box], h.buf.kept (grown_set w b 0 _) ?_⟩
  rcases hv : v.ownBlock with _ | g
  · exact .inl rfl
  · refine .inr (fun e => ?_)
    injection e with e
    have := (h.buf.lt g hv).1
    omega
/-- What a method leaves: the number e, and the reader so. -/
def Reads (w : World) (b : Nat) (rest text : List UInt8) (n : Int) (e : Ending) (w' : World) : Prop := e = .returned (.int .i64 n) ∧ (∃ v, Rdr w' b rest v text) ∧ Below b w w'
theorem grown_alloc {w w' : World} {o : Obj} {row : Option Nat} (h : (w.alloc o).grownBy w' row) : w.grownBy w' row :=
  ⟨h.os, h.tape, h.output, by have := h.size; rw [World.size_alloc] at this; omega, fun k hk hne => (h.block k (by rw [World.size_alloc]; omega) hne).trans (Below.heap_alloc _ _ _ hk)⟩
/-- Behind an append to what was read, and its store. -/
structure Pushed (w w2 : World) (b : Nat) (rest : List UInt8) (v v2 : Value) (text : List UInt8) : Prop where
  c0 : w2.cell? ⟨b, 0, none⟩ = some (.string (bs rest))
  f0 : w2.frozen? ⟨b, 0, none⟩ = false
  c1 : w2.cell? ⟨b, 1, none⟩ = some v
  f1 : w2.frozen? ⟨b, 1, none⟩ = false
  lt : b < w2.heap.size
  rdr : Rdr (w2.setCell ⟨b, 1, none⟩ v2) b rest v2 text
  below : Below b w (w2.setCell ⟨b, 1, none⟩ v2)
theorem Rdr.push {w w2 : World} {b : Nat} {rest : List UInt8} {v v2 : Value} {text m : List UInt8} (h : Rdr w b rest v text) (hown : Buf w2 (b + 1) v2 (text ++ m)) (hg : w.grownBy w2 v.ownBlock) : Pushed w w2 b rest v v2 (text ++ m) := by
  have hne : some b ≠ v.ownBlock := fun e => by have := (h.buf.lt b e.symm).1; omega
  have hb : w2.heap[b]? = some (.cells #[.string (bs rest), v] 103 (0, 0)) := by rw [hg.block b (lt_of_at h.box) hne]; exact h.box
  refine ⟨cell_of_at hb rfl, by simp [World.frozen?, hb], cell_of_at hb rfl, by simp [World.frozen?, hb], lt_of_at hb, ⟨by simp [World.setCell, Array.getElem?_modify, hb], hown.kept (grown_set w2 b 1 _) ?_⟩, ?_⟩
  · rcases hv : v2.ownBlock with _ | g
    · exact .inl rfl
    · refine .inr (fun e => ?_)
      injection e with e
      have := (hown.lt g hv).1
      omega
  · exact ((Below.refl b w).grown hg (Nat.le_of_lt (lt_of_at h.box)) (fun k e => by have := (h.buf.lt k e).1; omega)).setCell (Nat.le_refl _) _
theorem Rdr.below0 {w : World} {b : Nat} {u : Value} : Below b w (w.setCell ⟨b, 0, none⟩ u) := (Below.refl b w).setCell (Nat.le_refl _) _
theorem news_set (w : World) (a : Addr) (u : Value) (cs : Array Value) (l : List UInt8) (h : cs.toList = vals l) : ∀ j x, (vals l)[j]? = some x → ((w.setCell a u).alloc (.cells cs 5)).cell? ((⟨w.heap.size, 0, none⟩ : Addr).add j) = some x := by
  have := news_at (w.setCell a u) cs l h
  rw [show (w.setCell a u).heap.size = w.heap.size by simp [World.setCell]] at this
  exact this
theorem digit_num (c : UInt8) (w : World) (h0 : 48 ≤ c.toNat) (h1 : c.toNat ≤ 57) : Calls Tryd.prog 105 #[.int .u8 (c.toNat : Int)] w fun e w' => e = .returned (.tuple #[.int .i32 ((c.toNat : Int) - 48), .bool true]) ∧ w = w' := by
  have a0 : (48 : Int) ≤ (c.toNat : Int) := by omega
  have a1 : (c.toNat : Int) ≤ 57 := by omega
  clear h0 h1
  go_enter Tryd.func105, Tryd.ntmps105
  go_wp2
  go_ret2
  exact ⟨rfl, rfl⟩
theorem digit_low (c : UInt8) (w : World) (h0 : 97 ≤ c.toNat) (h1 : c.toNat ≤ 102) : Calls Tryd.prog 105 #[.int .u8 (c.toNat : Int)] w fun e w' => e = .returned (.tuple #[.int .i32 ((c.toNat : Int) - 87), .bool true]) ∧ w = w' := by
  have a0 : (97 : Int) ≤ (c.toNat : Int) := by omega
  have a1 : (c.toNat : Int) ≤ 102 := by omega
  have a2 : ¬ (c.toNat : Int) ≤ 57 := by omega
  have a3 : (48 : Int) ≤ (c.toNat : Int) := by omega
  have HE : Hid ((c.toNat : Int) - 87 = (c.toNat : Int) - 97 + 10) := by rw [Hid]; omega
  clear h0 h1
  go_enter Tryd.func105, Tryd.ntmps105
  go_wp2
  go_ret2
  exact ⟨by rw [HE.out]; rfl, rfl⟩
theorem first_no (x : Int) (w : World) (h0 : 0 ≤ x) (h1 : x < 55296) : Calls Tryd.prog 96 #[.int .i32 x] w fun e w' => e = .returned (.bool false) ∧ w = w' := by
  have a : ¬ 55296 ≤ x := by omega
  go_enter Tryd.func96, Tryd.ntmps96
  go_wp2
  go_ret
  exact ⟨rfl, rfl⟩
theorem second_no (x : Int) (w : World) (h0 : 0 ≤ x) (h1 : x < 55296) : Calls Tryd.prog 98 #[.int .i32 x] w fun e w' => e = .returned (.bool false) ∧ w = w' := by
  have a : ¬ 56320 ≤ x := by omega
  go_enter Tryd.func98, Tryd.ntmps98
  go_wp2
  go_ret
  exact ⟨rfl, rfl⟩
theorem mark_yes (b : Nat) (rest : List UInt8) (v : Value) (text : List UInt8) (w : World) (h : Rdr w b (34 :: rest) v text) : Calls Tryd.prog 69 #[.pointer (some ⟨b, 0, none⟩)] w fun e w' => e = .returned (.bool true) ∧ w = w' := by
  have c0 := h.c0
  obtain ⟨p1, p2, _, p4⟩ := bs_cons 34 rest
  generalize bs (34 :: rest) = r at *
  clear h
  go_enter Tryd.func69, Tryd.ntmps69
  go_wp2
  go_ret
  exact ⟨rfl, rfl⟩
theorem mark_no (b : Nat) (c : UInt8) (rest : List UInt8) (v : Value) (text : List UInt8) (w : World) (hc : c.toNat ≠ 34) (h : Rdr w b (c :: rest) v text) : Calls Tryd.prog 69 #[.pointer (some ⟨b, 0, none⟩)] w fun e w' => e = .returned (.bool false) ∧ w = w' := by
  have c0 := h.c0
  obtain ⟨p1, p2, _, p4⟩ := bs_cons c rest
  generalize bs (c :: rest) = r at *
  have e1 : ((c.toNat : Int) == 34) = false := by rw [beq_eq_false_iff_ne]; omega
  clear h hc
  go_enter Tryd.func69, Tryd.ntmps69
  go_wp2
  go_ret
  exact ⟨rfl, rfl⟩
/-! ### four digits -/
def isDig (c : UInt8) : Prop := (48 ≤ c.toNat ∧ c.toNat ≤ 57) ∨ (97 ≤ c.toNat ∧ c.toNat ≤ 102)
def dv (c : UInt8) : Int := if c.toNat ≤ 57 then (c.toNat : Int) - 48 else (c.toNat : Int) - 87
theorem dv_bd {c : UInt8} (h : isDig c) : 0 ≤ dv c ∧ dv c ≤ 15 := by
  unfold dv
  unfold isDig at h
  split <;> omega
theorem digit_any (c : UInt8) (w : World) (h : isDig c) : Calls Tryd.prog 105 #[.int .u8 (c.toNat : Int)] w fun e w' => e = .returned (.tuple #[.int .i32 (dv c), .bool true]) ∧ w = w' := by
  rcases h with h | h
  · rw [dv, if_pos h.2]
    exact digit_num c w h.1 h.2
  · rw [dv, if_neg (by omega)]
    exact digit_low c w h.1 h.2
def valD (l : List UInt8) : Int := l.foldl (fun a c => a * 16 + dv c) 0
theorem valD_snoc (l : List UInt8) (c : UInt8) : valD (l ++ [c]) = valD l * 16 + dv c := by simp [valD]
theorem valD_bd (l : List UInt8) (hl : l.length ≤ 3) (hd : ∀ c ∈ l, isDig c) : 0 ≤ valD l ∧ valD l ≤ 4095 := by
  rcases l with _ | ⟨a, _ | ⟨b, _ | ⟨c, _ | ⟨d, l⟩⟩⟩⟩
  · simp [valD]
  · have := dv_bd (hd a (by simp))
    simp [valD]; omega
  · have := dv_bd (hd a (by simp)); have := dv_bd (hd b (by simp))
    simp [valD]; omega
  · have := dv_bd (hd a (by simp)); have := dv_bd (hd b (by simp)); have := dv_bd (hd c (by simp))
    simp [valD]; omega
  · simp at hl
theorem take_four {ds : List UInt8} {k : Nat} (h : k < ds.length) : ds.take (k + 1) = ds.take k ++ [ds[k]] := by
  rw [List.take_succ_eq_append_getElem h]
set_option maxRecDepth 100000 in
set_option maxHeartbeats 2000000 in
theorem number_any (b : Nat) (ds rest : List UInt8) (v : Value) (text : List UInt8) (w : World) (h4 : ds.length = 4) (hd : ∀ c ∈ ds, isDig c) (h : Rdr w b (ds ++ rest) v text) :
    Calls Tryd.prog 95 #[.pointer (some ⟨b, 0, none⟩)] w fun e w' => e = .returned (.tuple #[.int .i32 (valD ds), .int .i64 0]) ∧ Rdr w' b rest v text ∧ Below b w w' := by
  have H := Lib.hid h
  have HD := Lib.hid hd
  have H4 := Lib.hid h4
  clear h hd h4
  go_enter Tryd.func95, Tryd.ntmps95
  go_wp2
  go_loopw [4, 7] (fun a4 a7 wr => ∃ (k : Nat) (n : Int), k ≤ 4 ∧ a7 = .int .i64 k ∧ a4 = .int .i32 n ∧ Hid (n = valD (ds.take k)) ∧ Hid (Rdr wr b (ds.drop k ++ rest) v text) ∧ Hid (Below b w wr)) (fun _ a7 _ => 4 - (intOf a7).toNat)
  case atStart => exact ⟨0, 0, by omega, rfl, rfl, rfl, by rw [Hid, List.drop_zero]; exact H.out, Below.refl _ _⟩
  case round =>
    obtain ⟨k, n, hk, rfl, rfl, HN, HR, HB⟩ := hrel
    by_cases hlt : k < 4
    · have hk4 : k < ds.length := by rw [H4.out]; exact hlt
      have HT : Hid (valD (ds.take (k + 1)) = n * 16 + dv ds[k]) := by rw [Hid, take_four hk4, valD_snoc, HN.out]
      have hbd : 0 ≤ n ∧ n ≤ 4095 := by
        rw [HN.out]
        exact valD_bd _ (by rw [List.length_take]; omega) (fun c hc => HD.out c (List.mem_of_mem_take hc))
      obtain ⟨n0, n1⟩ := hbd
      have hc0 := HD.out ds[k] (List.getElem_mem hk4)
      have hR := HR.out
      rw [List.drop_eq_getElem_cons hk4, List.cons_append] at hR
      generalize ds[k] = c at *
      have hdv := dv_bd hc0
      obtain ⟨d0, d1⟩ := hdv
      have HC := Lib.hid hc0
      clear hc0
      have c0 := hR.c0
      have f0 := hR.f0
      have HR1 := Lib.hid (hR.set0 (r2 := ds.drop (k + 1) ++ rest))
      obtain ⟨p1, p2, p3, p4⟩ := bs_cons c (ds.drop (k + 1) ++ rest)
      generalize bs (c :: (ds.drop (k + 1) ++ rest)) = r at *
      generalize bs (ds.drop (k + 1) ++ rest) = r1 at *
      have HDG := Lib.hid (fun W => digit_any c W HC.out)
      generalize dv c = d at *
      clear hR
      go_wp2_with fail
      refine (HDG.out _).mono ?_
      rintro e w' ⟨rfl, rfl⟩
      go_wp2
      go_roundw
      case rel => exact ⟨k + 1, n * 16 + d, by omega, by go_num, rfl, HT.out.symm, HR1.out, HB.out.trans Rdr.below0⟩
      case measure => simp [intOf]; omega
    · obtain rfl : k = 4 := by omega
      have hR := HR.out
      rw [List.drop_eq_nil_of_le (by rw [H4.out]; exact Nat.le_refl _), List.nil_append] at hR
      have HR2 := Lib.hid hR
      have hn := HN.out
      rw [List.take_of_length_le (by rw [H4.out]; exact Nat.le_refl _)] at hn
      have HN2 := Lib.hid hn
      clear hR hn HR HN
      go_wp2
      go_ret2
      exact ⟨by rw [← HN2.out]; rfl, HR2.out, HB.out⟩
set_option maxRecDepth 100000 in
set_option maxHeartbeats 1000000 in
theorem escape_98 (b : Nat) (rest : List UInt8) (v : Value) (text : List UInt8) (w : World) (hl : text.length ≤ 1000000) (h : Rdr w b (98 :: rest) v text) : Calls Tryd.prog 83 #[.pointer (some ⟨b, 0, none⟩)] w (Reads w b rest (text ++ [8]) 0) := by
  obtain ⟨i0, hi, hz0, hz1, hz2⟩ := info_parts info5
  have c0 := h.c0
  have c1 := h.c1
  have f0 := h.f0
  have f1 := h.f1
  have H1 := Lib.hid (h.set0 (r2 := rest))
  have hx := Lib.hid (show Lib.indexByte (⟨#[98, 102, 110, 114, 116]⟩ : ByteArray).data.toList (98 : Int).toNat.toUInt8 = 0 by decide)
  have hbw := lt_of_at h.box
  obtain ⟨p1, p2, p3, p4⟩ := bs_cons 98 rest
  generalize bs (98 :: rest) = r at *
  generalize bs rest = r1 at *
  clear h
  go_enter Tryd.func83, Tryd.ntmps83
  go_wp2_with (first
    | (go_at_call 86; refine (idx_any _ _ _ _ hx.out).mono ?_; rintro e w' ⟨rfl, rfl⟩)
    | (at_builtin; refine wpList_append_lies _ rfl _ _ 101 rfl (b + 1) 5 i0 (.int .u8 0) 1 1 Tryd.underlying101 hi hz0 hz1 hz2 rfl (by decide) v text.length (vals text) rfl (H1.out.buf.alloc _) ⟨w.heap.size, 0, none⟩ 1 1 (vals [8]) rfl rfl (news_set w _ _ _ _ rfl) (vals_one _) (by decide) (by unfold maxLen; omega) (by omega) (by simp; omega) (w.heap.size + 1) (by simp) ?_; intro g cap w2 hown hgrow hat hlt; have HP := Lib.hid (H1.out.push (Buf.more hown rfl) (grown_alloc hgrow)); clear hown hgrow hat hlt; have d1 := HP.out.c1; have d2 := HP.out.f1; have d3 := HP.out.lt))
  go_ret
  exact ⟨rfl, ⟨_, HP.out.rdr⟩, Rdr.below0.trans HP.out.below⟩
set_option maxRecDepth 100000 in
set_option maxHeartbeats 1000000 in
theorem escape_102 (b : Nat) (rest : List UInt8) (v : Value) (text : List UInt8) (w : World) (hl : text.length ≤ 1000000) (h : Rdr w b (102 :: rest) v text) : Calls Tryd.prog 83 #[.pointer (some ⟨b, 0, none⟩)] w (Reads w b rest (text ++ [12]) 0) := by
  obtain ⟨i0, hi, hz0, hz1, hz2⟩ := info_parts info5
  have c0 := h.c0
  have c1 := h.c1
  have f0 := h.f0
  have f1 := h.f1
  have H1 := Lib.hid (h.set0 (r2 := rest))
  have hx := Lib.hid (show Lib.indexByte (⟨#[98, 102, 110, 114, 116]⟩ : ByteArray).data.toList (102 : Int).toNat.toUInt8 = 1 by decide)
  have hbw := lt_of_at h.box
  obtain ⟨p1, p2, p3, p4⟩ := bs_cons 102 rest
  generalize bs (102 :: rest) = r at *
  generalize bs rest = r1 at *
  clear h
  go_enter Tryd.func83, Tryd.ntmps83
  go_wp2_with (first
    | (go_at_call 86; refine (idx_any _ _ _ _ hx.out).mono ?_; rintro e w' ⟨rfl, rfl⟩)
    | (at_builtin; refine wpList_append_lies _ rfl _ _ 101 rfl (b + 1) 5 i0 (.int .u8 0) 1 1 Tryd.underlying101 hi hz0 hz1 hz2 rfl (by decide) v text.length (vals text) rfl (H1.out.buf.alloc _) ⟨w.heap.size, 0, none⟩ 1 1 (vals [12]) rfl rfl (news_set w _ _ _ _ rfl) (vals_one _) (by decide) (by unfold maxLen; omega) (by omega) (by simp; omega) (w.heap.size + 1) (by simp) ?_; intro g cap w2 hown hgrow hat hlt; have HP := Lib.hid (H1.out.push (Buf.more hown rfl) (grown_alloc hgrow)); clear hown hgrow hat hlt; have d1 := HP.out.c1; have d2 := HP.out.f1; have d3 := HP.out.lt))
  go_ret
  exact ⟨rfl, ⟨_, HP.out.rdr⟩, Rdr.below0.trans HP.out.below⟩
set_option maxRecDepth 100000 in
set_option maxHeartbeats 1000000 in
theorem escape_110 (b : Nat) (rest : List UInt8) (v : Value) (text : List UInt8) (w : World) (hl : text.length ≤ 1000000) (h : Rdr w b (110 :: rest) v text) : Calls Tryd.prog 83 #[.pointer (some ⟨b, 0, none⟩)] w (Reads w b rest (text ++ [10]) 0) := by
  obtain ⟨i0, hi, hz0, hz1, hz2⟩ := info_parts info5
  have c0 := h.c0
  have c1 := h.c1
  have f0 := h.f0
  have f1 := h.f1
  have H1 := Lib.hid (h.set0 (r2 := rest))
  have hx := Lib.hid (show Lib.indexByte (⟨#[98, 102, 110, 114, 116]⟩ : ByteArray).data.toList (110 : Int).toNat.toUInt8 = 2 by decide)
  have hbw := lt_of_at h.box
  obtain ⟨p1, p2, p3, p4⟩ := bs_cons 110 rest
  generalize bs (110 :: rest) = r at *
  generalize bs rest = r1 at *
  clear h
  go_enter Tryd.func83, Tryd.ntmps83
  go_wp2_with (first
    | (go_at_call 86; refine (idx_any _ _ _ _ hx.out).mono ?_; rintro e w' ⟨rfl, rfl⟩)
    | (at_builtin; refine wpList_append_lies _ rfl _ _ 101 rfl (b + 1) 5 i0 (.int .u8 0) 1 1 Tryd.underlying101 hi hz0 hz1 hz2 rfl (by decide) v text.length (vals text) rfl (H1.out.buf.alloc _) ⟨w.heap.size, 0, none⟩ 1 1 (vals [10]) rfl rfl (news_set w _ _ _ _ rfl) (vals_one _) (by decide) (by unfold maxLen; omega) (by omega) (by simp; omega) (w.heap.size + 1) (by simp) ?_; intro g cap w2 hown hgrow hat hlt; have HP := Lib.hid (H1.out.push (Buf.more hown rfl) (grown_alloc hgrow)); clear hown hgrow hat hlt; have d1 := HP.out.c1; have d2 := HP.out.f1; have d3 := HP.out.lt))
  go_ret
  exact ⟨rfl, ⟨_, HP.out.rdr⟩, Rdr.below0.trans HP.out.below⟩
set_option maxRecDepth 100000 in
set_option maxHeartbeats 1000000 in
theorem escape_114 (b : Nat) (rest : List UInt8) (v : Value) (text : List UInt8) (w : World) (hl : text.length ≤ 1000000) (h : Rdr w b (114 :: rest) v text) : Calls Tryd.prog 83 #[.pointer (some ⟨b, 0, none⟩)] w (Reads w b rest (text ++ [13]) 0) := by
  obtain ⟨i0, hi, hz0, hz1, hz2⟩ := info_parts info5
  have c0 := h.c0
  have c1 := h.c1
  have f0 := h.f0
  have f1 := h.f1
  have H1 := Lib.hid (h.set0 (r2 := rest))
  have hx := Lib.hid (show Lib.indexByte (⟨#[98, 102, 110, 114, 116]⟩ : ByteArray).data.toList (114 : Int).toNat.toUInt8 = 3 by decide)
  have hbw := lt_of_at h.box
  obtain ⟨p1, p2, p3, p4⟩ := bs_cons 114 rest
  generalize bs (114 :: rest) = r at *
  generalize bs rest = r1 at *
  clear h
  go_enter Tryd.func83, Tryd.ntmps83
  go_wp2_with (first
    | (go_at_call 86; refine (idx_any _ _ _ _ hx.out).mono ?_; rintro e w' ⟨rfl, rfl⟩)
    | (at_builtin; refine wpList_append_lies _ rfl _ _ 101 rfl (b + 1) 5 i0 (.int .u8 0) 1 1 Tryd.underlying101 hi hz0 hz1 hz2 rfl (by decide) v text.length (vals text) rfl (H1.out.buf.alloc _) ⟨w.heap.size, 0, none⟩ 1 1 (vals [13]) rfl rfl (news_set w _ _ _ _ rfl) (vals_one _) (by decide) (by unfold maxLen; omega) (by omega) (by simp; omega) (w.heap.size + 1) (by simp) ?_; intro g cap w2 hown hgrow hat hlt; have HP := Lib.hid (H1.out.push (Buf.more hown rfl) (grown_alloc hgrow)); clear hown hgrow hat hlt; have d1 := HP.out.c1; have d2 := HP.out.f1; have d3 := HP.out.lt))
  go_ret
  exact ⟨rfl, ⟨_, HP.out.rdr⟩, Rdr.below0.trans HP.out.below⟩
set_option maxRecDepth 100000 in
set_option maxHeartbeats 1000000 in
theorem escape_116 (b : Nat) (rest : List UInt8) (v : Value) (text : List UInt8) (w : World) (hl : text.length ≤ 1000000) (h : Rdr w b (116 :: rest) v text) : Calls Tryd.prog 83 #[.pointer (some ⟨b, 0, none⟩)] w (Reads w b rest (text ++ [9]) 0) := by
  obtain ⟨i0, hi, hz0, hz1, hz2⟩ := info_parts info5
  have c0 := h.c0
  have c1 := h.c1
  have f0 := h.f0
  have f1 := h.f1
  have H1 := Lib.hid (h.set0 (r2 := rest))
  have hx := Lib.hid (show Lib.indexByte (⟨#[98, 102, 110, 114, 116]⟩ : ByteArray).data.toList (116 : Int).toNat.toUInt8 = 4 by decide)
  have hbw := lt_of_at h.box
  obtain ⟨p1, p2, p3, p4⟩ := bs_cons 116 rest
  generalize bs (116 :: rest) = r at *
  generalize bs rest = r1 at *
  clear h
  go_enter Tryd.func83, Tryd.ntmps83
  go_wp2_with (first
    | (go_at_call 86; refine (idx_any _ _ _ _ hx.out).mono ?_; rintro e w' ⟨rfl, rfl⟩)
    | (at_builtin; refine wpList_append_lies _ rfl _ _ 101 rfl (b + 1) 5 i0 (.int .u8 0) 1 1 Tryd.underlying101 hi hz0 hz1 hz2 rfl (by decide) v text.length (vals text) rfl (H1.out.buf.alloc _) ⟨w.heap.size, 0, none⟩ 1 1 (vals [9]) rfl rfl (news_set w _ _ _ _ rfl) (vals_one _) (by decide) (by unfold maxLen; omega) (by omega) (by simp; omega) (w.heap.size + 1) (by simp) ?_; intro g cap w2 hown hgrow hat hlt; have HP := Lib.hid (H1.out.push (Buf.more hown rfl) (grown_alloc hgrow)); clear hown hgrow hat hlt; have d1 := HP.out.c1; have d2 := HP.out.f1; have d3 := HP.out.lt))
  go_ret
  exact ⟨rfl, ⟨_, HP.out.rdr⟩, Rdr.below0.trans HP.out.below⟩
set_option maxRecDepth 100000 in
set_option maxHeartbeats 1000000 in
theorem escape_34 (b : Nat) (rest : List UInt8) (v : Value) (text : List UInt8) (w : World) (hl : text.length ≤ 1000000) (h : Rdr w b (34 :: rest) v text) : Calls Tryd.prog 83 #[.pointer (some ⟨b, 0, none⟩)] w (Reads w b rest (text ++ [34]) 0) := by
  obtain ⟨i0, hi, hz0, hz1, hz2⟩ := info_parts info5
  have c0 := h.c0
  have c1 := h.c1
  have f0 := h.f0
  have f1 := h.f1
  have H1 := Lib.hid (h.set0 (r2 := rest))
  have hbw := lt_of_at h.box
  obtain ⟨p1, p2, p3, p4⟩ := bs_cons 34 rest
  generalize bs (34 :: rest) = r at *
  generalize bs rest = r1 at *
  clear h
  go_enter Tryd.func83, Tryd.ntmps83
  go_wp2_with (first
    | (at_builtin; refine wpList_append_lies _ rfl _ _ 101 rfl (b + 1) 5 i0 (.int .u8 0) 1 1 Tryd.underlying101 hi hz0 hz1 hz2 rfl (by decide) v text.length (vals text) rfl (H1.out.buf.alloc _) ⟨w.heap.size, 0, none⟩ 1 1 (vals [34]) rfl rfl (news_set w _ _ _ _ rfl) (vals_one _) (by decide) (by unfold maxLen; omega) (by omega) (by simp; omega) (w.heap.size + 1) (by simp) ?_; intro g cap w2 hown hgrow hat hlt; have HP := Lib.hid (H1.out.push (Buf.more hown rfl) (grown_alloc hgrow)); clear hown hgrow hat hlt; have d1 := HP.out.c1; have d2 := HP.out.f1; have d3 := HP.out.lt))
  go_ret
  exact ⟨rfl, ⟨_, HP.out.rdr⟩, Rdr.below0.trans HP.out.below⟩
set_option maxRecDepth 100000 in
set_option maxHeartbeats 1000000 in
theorem escape_92 (b : Nat) (rest : List UInt8) (v : Value) (text : List UInt8) (w : World) (hl : text.length ≤ 1000000) (h : Rdr w b (92 :: rest) v text) : Calls Tryd.prog 83 #[.pointer (some ⟨b, 0, none⟩)] w (Reads w b rest (text ++ [92]) 0) := by
  obtain ⟨i0, hi, hz0, hz1, hz2⟩ := info_parts info5
  have c0 := h.c0
  have c1 := h.c1
  have f0 := h.f0
  have f1 := h.f1
  have H1 := Lib.hid (h.set0 (r2 := rest))
  have hbw := lt_of_at h.box
  obtain ⟨p1, p2, p3, p4⟩ := bs_cons 92 rest
  generalize bs (92 :: rest) = r at *
  generalize bs rest = r1 at *
  clear h
  go_enter Tryd.func83, Tryd.ntmps83
  go_wp2_with (first
    | (at_builtin; refine wpList_append_lies _ rfl _ _ 101 rfl (b + 1) 5 i0 (.int .u8 0) 1 1 Tryd.underlying101 hi hz0 hz1 hz2 rfl (by decide) v text.length (vals text) rfl (H1.out.buf.alloc _) ⟨w.heap.size, 0, none⟩ 1 1 (vals [92]) rfl rfl (news_set w _ _ _ _ rfl) (vals_one _) (by decide) (by unfold maxLen; omega) (by omega) (by simp; omega) (w.heap.size + 1) (by simp) ?_; intro g cap w2 hown hgrow hat hlt; have HP := Lib.hid (H1.out.push (Buf.more hown rfl) (grown_alloc hgrow)); clear hown hgrow hat hlt; have d1 := HP.out.c1; have d2 := HP.out.f1; have d3 := HP.out.lt))
  go_ret
  exact ⟨rfl, ⟨_, HP.out.rdr⟩, Rdr.below0.trans HP.out.below⟩
end Go.Proofs.YtfhhmajkacjbgaaDoor
namespace Go.Proofs.YtfhhmajkacjbgaaDoor
open Go.ChangeShapes Go.WideShapes Go.ChangeAt Go.RowKit
attribute [local go_sem ↓] Go.wp_at_zero Go.wp_at_succ
variable {w : World}

/-- utf8.AppendRune at this program. -/
theorem rune_any (B : Nat) (v : Value) (l m : List UInt8) (r : Int) (w : World) (h0 : 0 ≤ r) (h1 : r ≤ 2147483647) (hl : l.length ≤ 1000000) (hB : B ≤ w.heap.size) (hb : Buf w B v l) (hm : Lib.runeCells r = vals m) (hm0 : 0 < m.length) :
    Calls Tryd.prog 99 #[v, .int .i32 r] w fun e w' => ∃ g n c : Nat, e = .returned (.slice (some ⟨g, 0, none⟩) n c) ∧ Buf w' B (.slice (some ⟨g, 0, none⟩) n c) (l ++ m) ∧ w.grownBy w' v.ownBlock := by
  refine (Any.utf8_AppendRune_plain Tryd.laysRune info5 B v l.length (vals l) r (by omega) h1 w hb (by omega) hB).mono ?_
  rintro e w' ⟨v', he, hown, o, hg⟩
  rw [hm, vals_length] at hown
  obtain ⟨g, cap, rfl, _⟩ := World.ownsRow.form hown (by omega)
  exact ⟨g, _, cap, he, Buf.more hown rfl, grown_alloc hg⟩
set_option maxRecDepth 100000 in
set_option maxHeartbeats 2000000 in
theorem byNumber_any (b : Nat) (ds rest : List UInt8) (v : Value) (text m : List UInt8) (w : World) (h4 : ds.length = 4) (hd : ∀ c ∈ ds, isDig c) (h0 : 0 ≤ valD ds) (h1 : valD ds < 55296) (hm : Lib.runeCells (valD ds) = vals m) (hm0 : 0 < m.length) (hl : text.length ≤ 1000000) (h : Rdr w b (ds ++ rest) v text) :
    Calls Tryd.prog 90 #[.pointer (some ⟨b, 0, none⟩)] w (Reads w b rest (text ++ m) 0) := by
  have HN := Lib.hid (number_any b ds rest v text w h4 hd h)
  have HM := Lib.hid hm
  generalize valD ds = n at *
  have h2 : n ≤ 2147483647 := by omega
  clear h h4 hd hm
  go_enter Tryd.func90, Tryd.ntmps90
  go_wp2_with fail
  refine HN.out.mono ?_
  rintro e w1 ⟨rfl, hr, hb1⟩
  have HR := Lib.hid hr
  have HB1 := Lib.hid hb1
  have c1 := hr.c1
  have hlt := lt_of_at hr.box
  clear hr hb1
  go_wp2_with fail
  refine (first_no n _ h0 h1).mono ?_
  rintro e w' ⟨rfl, rfl⟩
  go_wp2_with fail
  refine (second_no n _ h0 h1).mono ?_
  rintro e w' ⟨rfl, rfl⟩
  go_wp2_with fail
  refine (rune_any (b + 1) v text m n _ h0 h2 hl (by omega) HR.out.buf HM.out hm0).mono ?_
  rintro e w2 ⟨g2, n2, k2, rfl, hb2, hg2⟩
  have HP := Lib.hid (HR.out.push hb2 hg2)
  clear hb2 hg2
  have d1 := HP.out.c1
  have d2 := HP.out.f1
  have d3 := HP.out.lt
  go_wp2
  go_ret
  exact ⟨rfl, ⟨_, HP.out.rdr⟩, HB1.out.trans HP.out.below⟩
set_option maxRecDepth 100000 in
set_option maxHeartbeats 2000000 in
theorem escape_u (b : Nat) (rest r2 : List UInt8) (v : Value) (text t2 : List UInt8) (w : World) (h : Rdr w b (117 :: rest) v text)
    (hn : ∀ W, Rdr W b rest v text → Calls Tryd.prog 90 #[.pointer (some ⟨b, 0, none⟩)] W (Reads W b r2 t2 0)) :
    Calls Tryd.prog 83 #[.pointer (some ⟨b, 0, none⟩)] w (Reads w b r2 t2 0) := by
  have c0 := h.c0
  have f0 := h.f0
  have hbw := lt_of_at h.box
  have HN := Lib.hid (hn _ (h.set0 (r2 := rest)))
  obtain ⟨p1, p2, p3, p4⟩ := bs_cons 117 rest
  generalize bs (117 :: rest) = r at *
  generalize bs rest = r1 at *
  clear h hn
  go_enter Tryd.func83, Tryd.ntmps83
  go_wp2_with fail
  refine HN.out.mono ?_
  rintro e w2 ⟨rfl, hr2, hb2⟩
  go_wp2
  go_ret
  exact ⟨rfl, hr2, Rdr.below0.trans hb2⟩
set_option maxRecDepth 100000 in
set_option maxHeartbeats 2000000 in
theorem char_esc (b : Nat) (rest r2 : List UInt8) (v : Value) (text t2 : List UInt8) (w : World) (h : Rdr w b (92 :: rest) v text)
    (hn : ∀ W, Rdr W b rest v text → Calls Tryd.prog 83 #[.pointer (some ⟨b, 0, none⟩)] W (Reads W b r2 t2 0)) :
    Calls Tryd.prog 70 #[.pointer (some ⟨b, 0, none⟩)] w (Reads w b r2 t2 0) := by
  have c0 := h.c0
  have f0 := h.f0
  have hbw := lt_of_at h.box
  have HN := Lib.hid (hn _ (h.set0 (r2 := rest)))
  obtain ⟨p1, p2, p3, p4⟩ := bs_cons 92 rest
  generalize bs (92 :: rest) = r at *
  generalize bs rest = r1 at *
  clear h hn
  go_enter Tryd.func70, Tryd.ntmps70
  go_wp2_with fail
  refine HN.out.mono ?_
  rintro e w2 ⟨rfl, hr2, hb2⟩
  go_wp2
  go_ret
  exact ⟨rfl, hr2, Rdr.below0.trans hb2⟩
/-- The library's tables lie as its text lays them. -/
def Tabs (w : World) : Prop := Lib.Utf8Tabs (Tryd.laysValid_ren.g 3) (Tryd.laysValid_ren.g 4) w
theorem valid_any (s : ByteArray) (w : World) (hs : s.size ≤ 1000000) (hT : Tabs w) : Calls Tryd.prog 92 #[.string s] w fun e w' => e = .returned (.bool (Lib.validD s.data.toList)) ∧ Fresh w w' :=
  Any.utf8_ValidString Tryd.laysValid s w (by omega) hT
theorem isValid_any (s : ByteArray) (w : World) (hs : s.size ≤ 1000000) (hT : Tabs w) : Calls Tryd.prog 85 #[.string s] w fun e w' => e = .returned (.bool (Lib.validD s.data.toList)) ∧ Fresh w w' := by
  have HV := Lib.hid (valid_any s w hs hT)
  generalize Lib.validD s.data.toList = x at *
  clear hT
  go_enter Tryd.func85, Tryd.ntmps85
  go_wp2_with fail
  refine HV.out.mono ?_
  rintro e w1 ⟨rfl, hf⟩
  go_wp2
  go_ret
  exact ⟨rfl, hf⟩
theorem decode_any (s : ByteArray) (w : World) (hT : Tabs w) : Calls Tryd.prog 84 #[.string s] w fun e w' => e = .returned (.tuple #[.int .i32 (Lib.decodeGo s).1, .int .i64 (Lib.decodeGo s).2]) ∧ Fresh w w' :=
  Any.utf8_DecodeRuneInString Tryd.laysDecode s w hT
end Go.Proofs.YtfhhmajkacjbgaaDoor
namespace Go.Proofs.YtfhhmajkacjbgaaDoor
open Go.ChangeShapes Go.WideShapes Go.ChangeAt Go.RowKit
attribute [local go_sem ↓] Go.wp_at_zero Go.wp_at_succ
variable {w : World}

theorem bs_take (n : Nat) (l : List UInt8) : (bs l).extract 0 n = bs (l.take n) := by
  apply ByteArray.ext
  apply Array.toList_inj.1
  rw [ByteArray.data_extract, Array.toList_extract, bs_toList, bs_toList]
  simp
theorem strCells_bs (l : List UInt8) : Lib.strCells (bs l) = vals l := by
  rw [Lib.strCells, bs_toList]
  rfl
theorem Tabs.move {w w' : World} (h : Tabs w) (f : Fresh w w') : Tabs w' := Utf8Tabs_below h f
/-- append(.., s...) at a step of a region that draws its order. -/
theorem step_append_string {P : Program} {ops : Array Oper} {o : Oper} {a : Act} {w : World} {K : Act → World → Prop} {Q : Exit → Act → World → Prop} {E : Prop} (hgd : o.guard = none) (sl x : Operand) (t u : TypeId)
    (ho : o.op = .call { callee := .builtin .append, args := #[sl, x], argTypes := #[t, u] })
    (base : Nat) (e : TypeId) (i : TypeInfo) (ht : P.underlying t = some (.slice e)) (hu : P.underlying u = some .string) (hi : P.info? e = some i) (hz : i.zero = some (.int .u8 0))
    (hsize : i.size = 1) (hby : i.bytes = 1)
    (v : Value) (n : Nat) (xs : List Value) (hs : a.eval sl = v) (hown : w.ownsRow base e 1 v n xs) (s : ByteArray) (hx : a.eval x = .string s)
    (h63 : n + s.size ≤ maxLen) (hbytes : n + s.size ≤ 140737488355328) (hbase : base ≤ w.heap.size)
    (h : ∀ v' w', w'.ownsRow base e 1 v' (n + s.size) (xs ++ Lib.strCells s) → w.grownBy w' v.ownBlock → K (a.put o.dst v') w') :
    if Region.wanted o (yielded ops a.tmps) = true then Oper.wp P o a w K Q else E := by
  have hw : Region.wanted o (yielded ops a.tmps) = true := by simp [Region.wanted, hgd]
  rw [if_pos hw]
  obtain ⟨v', w', hr, h2, h3, h4⟩ := Lib.run_append_own_string (P := P) w base t u o.type e i ht hu hi hz hsize hby v n xs hown s h63 hbytes hbase
  unfold Oper.wp execOp
  simp only [ho, resolve, invoke, builtin, Sem.run_bind, Sem.run_pure, Result.andThen_ok, List.map_toArray, List.map_cons, List.map_nil, hs, hx, hr]
  exact h v' w' h2 h3
set_option maxRecDepth 100000 in
set_option maxHeartbeats 4000000 in
theorem char_plain (b : Nat) (c : UInt8) (cs rest : List UInt8) (v : Value) (text : List UInt8) (w : World) (hT : Tabs w) (h0 : 32 ≤ c.toNat) (h1 : c.toNat ≠ 92) (hd : (Lib.decodeGo (bs (c :: cs ++ rest))).2 = (c :: cs).length) (hv : Lib.validD (c :: cs) = true) (hcl : (c :: cs).length ≤ 4)
    (hl : text.length ≤ 100000) (h : Rdr w b (c :: cs ++ rest) v text) : Calls Tryd.prog 70 #[.pointer (some ⟨b, 0, none⟩)] w (Reads w b rest (text ++ (c :: cs)) 0) := by
  obtain ⟨i0, hi, hz0, hz1, hz2⟩ := info_parts info5
  have HR := Lib.hid h
  have HB0 := Lib.hid (lt_of_at h.box)
  have HT := Lib.hid hT
  have c0 := h.c0
  have e1 : ((c.toNat : Int) == 92) = false := by rw [beq_eq_false_iff_ne]; omega
  have e2 : ¬ (c.toNat : Int) < 32 := by omega
  obtain ⟨p1, p2, _, p4⟩ := (show Cons (bs (c :: cs ++ rest)) c (bs (cs ++ rest)) from bs_cons c (cs ++ rest))
  have q1 : (bs (c :: cs ++ rest)).extract 0 (c :: cs).length = bs (c :: cs) := by rw [bs_take, List.take_left]
  have q2 : (bs (c :: cs ++ rest)).extract (c :: cs).length (bs (c :: cs ++ rest)).size = bs rest := by rw [bs_drop, List.drop_left]
  have q3 : (((c :: cs).length : Nat) : Int) ≤ ((bs (c :: cs ++ rest)).size : Int) := by rw [bs_size, List.length_append]; omega
  have q4 : 0 < (c :: cs).length := by simp
  have HV : Hid (Lib.validD (bs (c :: cs)).data.toList = true) := by rw [Hid, bs_toList]; exact hv
  have HQ : Hid ((bs (c :: cs)).size = (c :: cs).length) := bs_size _
  have HS : Hid (Lib.strCells (bs (c :: cs)) = vals (c :: cs)) := strCells_bs _
  have HDE : Hid (∀ W, Tabs W → Calls Tryd.prog 84 #[.string (bs (c :: cs ++ rest))] W fun e w' => (∃ x : Int, e = .returned (.tuple #[.int .i32 x, .int .i64 (((c :: cs).length : Nat) : Int)])) ∧ Fresh W w') := fun W hW => by
    refine (decode_any _ W hW).mono ?_
    rintro e w' ⟨he, hf⟩
    rw [hd] at he
    exact ⟨⟨_, he⟩, hf⟩
  clear h hT hd hv h0 h1
  generalize hn : (c :: cs).length = n at *
  generalize hR : bs (c :: cs ++ rest) = R at *
  generalize hq : bs (c :: cs) = q at *
  generalize hr1 : bs rest = r1 at *
  have HN := Lib.hid hn
  have HRE := Lib.hid hR
  have HR1 := Lib.hid hr1
  clear hn hR hq hr1
  go_enter Tryd.func70, Tryd.ntmps70
  go_wp2_with fail
  refine (HDE.out _ HT.out).mono ?_
  rintro e w1 ⟨⟨x, rfl⟩, hf1⟩
  have hr := HR.out.fresh hf1
  have d0 := hr.c0
  rw [HRE.out] at d0
  have d1 := hr.c1
  have hlt := lt_of_at hr.box
  have HF1 := Lib.hid hf1
  have HRR := Lib.hid hr
  clear hf1 hr c0
  go_wp2_with fail
  refine (isValid_any q _ (by rw [HQ.out]; omega) (HT.out.move HF1.out)).mono ?_
  rintro e w2 ⟨rfl, hf2⟩
  rw [HV.out]
  have hr := HRR.out.fresh hf2
  have d0' := hr.c0
  rw [HRE.out] at d0'
  have d1' := hr.c1
  have hlt' := lt_of_at hr.box
  have HF2 := Lib.hid (HF1.out.trans hf2)
  have HRR2 := Lib.hid hr
  have k1 : text.length + q.size ≤ maxLen := by rw [HQ.out]; unfold maxLen; omega
  have k2 : text.length + q.size ≤ 140737488355328 := by rw [HQ.out]; omega
  have K1 := Lib.hid k1
  have K4 : Hid (0 < text.length + q.size) := by rw [Hid, HQ.out]; omega
  have K2 := Lib.hid k2
  have K3 : Hid (b + 1 ≤ w2.heap.size) := hlt'
  clear hf2 hr d0 d1 hlt HRR k1 k2
  go_wp2_with fail
  go_region_law ((refine step_append_string (by rfl) _ _ 101 9 (by rfl) (b + 1) 5 i0 Tryd.underlying101 Tryd.underlying9 hi hz0 hz1 hz2 v text.length (vals text) (by rfl) HRR2.out.buf q (by rfl) K1.out K2.out K3.out ?_; intro v3 w3 hown hg; obtain ⟨g3, cap3, rfl, _⟩ := World.ownsRow.form hown K4.out; have HP := Lib.hid (HRR2.out.push (m := c :: cs) (by rw [HQ.out, HS.out] at hown; exact Buf.more hown HN.out) ⟨hg.os, hg.tape, hg.output, hg.size, hg.block⟩); clear hown hg; have g1 := HP.out.c1; have g2 := HP.out.f1; have g4 := HP.out.lt))
  all_goals
    have s0 := HP.out.c0
    rw [HRE.out] at s0
    have s1 := HP.out.f0
    have HS2 := Lib.hid (HP.out.rdr.set0 (r2 := rest))
    rw [HR1.out] at HS2
    go_wp2
    go_ret
    rw [HQ.out]
    exact ⟨rfl, ⟨_, HS2.out⟩, ((Below.mono HF2.out (Nat.le_of_lt HB0.out)).trans HP.out.below).trans Rdr.below0⟩
end Go.Proofs.YtfhhmajkacjbgaaDoor
namespace Go.Proofs.YtfhhmajkacjbgaaDoor
open Go.ChangeShapes Go.WideShapes Go.ChangeAt Go.RowKit
theorem textFault_any (s : ByteArray) (w : World) (hs : s.size ≤ 1000000) (hT : Tabs w) : Calls Tryd.prog 78 #[.string s] w fun e w' => e = .returned (.int .i64 (textE s)) ∧ Fresh w w' := by
  have HU := Lib.hid (isValid_any s w hs hT)
  have HT : Hid (textE s = if Lib.validD s.data.toList = true then (if 4096 < s.size then 2 else 0) else 10) := rfl
  clear hT
  cases hv : Lib.validD s.data.toList with
  | false =>
    rw [hv] at HU HT
    have HT2 : Hid (textE s = 10) := HT.out
    clear HT hv
    generalize textE s = r at *
    go_enter Tryd.func78, Tryd.ntmps78
    go_wp2_with (fail)
    refine HU.out.mono ?_
    rintro e w1 ⟨rfl, hf⟩
    go_wp2
    go_ret
    exact ⟨ret_int HT2.out.symm, hf⟩
  | true =>
    rw [hv] at HU HT
    by_cases hl : 4096 < s.size
    · have HT2 : Hid (textE s = 2) := by rw [Hid, HT.out, if_pos rfl, if_pos hl]
      clear HT hv
      generalize textE s = r at *
      go_enter Tryd.func78, Tryd.ntmps78
      go_wp2_with (fail)
      refine HU.out.mono ?_
      rintro e w1 ⟨rfl, hf⟩
      have hf := Lib.hid hf
      go_wp2
      all_goals try (exfalso; omega)
      go_ret
      exact ⟨ret_int HT2.out.symm, hf.out⟩
    · have HT2 : Hid (textE s = 0) := by rw [Hid, HT.out, if_pos rfl, if_neg hl]
      clear HT hv
      generalize textE s = r at *
      go_enter Tryd.func78, Tryd.ntmps78
      go_wp2_with (fail)
      refine HU.out.mono ?_
      rintro e w1 ⟨rfl, hf⟩
      have hf := Lib.hid hf
      go_wp2
      all_goals try (exfalso; omega)
      go_ret
      exact ⟨ret_int HT2.out.symm, hf.out⟩
end Go.Proofs.YtfhhmajkacjbgaaDoor
namespace Go.Proofs.YtfhhmajkacjbgaaDoor
open Go.ChangeShapes Go.WideShapes Go.ChangeAt Go.RowKit
set_option maxRecDepth 100000 in
theorem cmdFault_any (l : List ByteArray) (a : Option Addr) (c : Nat) (w : World) (hT : Tabs w) (h : RowAt w a (tcells l)) (hl : l.length ≤ 1000000) (hn : ∀ s ∈ l, s.size ≤ 1000000) :
    Calls Tryd.prog 52 #[.slice a l.length c] w fun e w' => e = .returned (.int .i64 (cmdE l)) ∧ Fresh w w' := by
  have HT := Lib.hid hT
  have HR := Lib.hid h
  have HN := Lib.hid hn
  clear hT h hn
  go_enter Tryd.func52, Tryd.ntmps52
  go_wp2
  go_loopw [8] (fun a8 wr => ∃ (k : Nat), a8 = .int .i64 (k : Int) ∧ k ≤ l.length ∧ Hid (cmdE l = cmdE (l.drop k)) ∧ Hid (Fresh w wr)) (fun a8 _ => l.length - (intOf a8).toNat)
  case atStart => exact ⟨0, rfl, Nat.zero_le _, rfl, Fresh.refl _⟩
  case round =>
    obtain ⟨k, rfl, hk, HE, HF⟩ := hrel
    by_cases hlt : k < l.length
    · obtain ⟨g, o1, rfl, hc⟩ := trow_form (HR.out.move HF.out) hlt
      have c0 := hc k hlt
      have HC := Lib.hid (textFault_any l[k] wr (HN.out _ (List.getElem_mem hlt)) (HT.out.move HF.out))
      have HST : Hid (cmdE l = if textE l[k] = 0 then cmdE (l.drop (k + 1)) else textE l[k]) := by
        rw [Hid, HE.out, List.drop_eq_getElem_cons hlt, cmdE]
      clear hc
      generalize l[k] = x at *
      generalize textE x = ec at *
      by_cases hx : ec = 0
      · have HN2 : Hid (cmdE l = cmdE (l.drop (k + 1))) := by rw [Hid, HST.out, if_pos hx]
        subst hx
        clear HST
        go_wp2_with (fail)
        refine HC.out.mono ?_
        rintro e w1 ⟨rfl, hf⟩
        have HF2 := Lib.hid (HF.out.trans hf)
        clear hf
        go_wp2
        all_goals try (exfalso; omega)
        go_roundw
        case rel => exact ⟨k + 1, by simp, by omega, HN2.out, HF2.out⟩
        case measure => simp [intOf]; omega
      · have HR2 : Hid (cmdE l = ec) := by rw [Hid, HST.out, if_neg hx]
        have e0 : (ec == 0) = false := by rw [beq_eq_false_iff_ne]; exact hx
        have e1 : (ec != 0) = true := by simp [hx]
        clear HST
        go_wp2_with (fail)
        refine HC.out.mono ?_
        rintro e w1 ⟨rfl, hf⟩
        have HF2 := Lib.hid (HF.out.trans hf)
        clear hf
        go_wp2
        all_goals try (exfalso; omega)
        go_ret
        exact ⟨ret_int HR2.out.symm, HF2.out⟩
    · obtain rfl : k = l.length := by omega
      have HR2 : Hid (cmdE l = 0) := by rw [Hid, HE.out, List.drop_length]; rfl
      go_wp2
      all_goals try (exfalso; omega)
      go_ret
      exact ⟨ret_int HR2.out.symm, HF.out⟩
end Go.Proofs.YtfhhmajkacjbgaaDoor
namespace Go.Proofs.YtfhhmajkacjbgaaDoor
open Go.ChangeShapes Go.WideShapes Go.ChangeAt Go.RowKit
attribute [local go_sem ↓] Go.wp_at_zero Go.wp_at_succ

theorem memP_take {l : List (Int × Int)} {x : Int × Int} {j : Nat} (h : j < l.length) (hm : memP x (l.take j) = false) : memP x (l.take (j + 1)) = decide (l[j] = x) := by
  rw [List.take_succ_eq_append_getElem h]
  unfold memP at hm ⊢
  rw [List.any_append, hm]
  simp
theorem memP_yes {l : List (Int × Int)} {x : Int × Int} {j : Nat} (h : j < l.length) (e : l[j] = x) : memP x l = true := by
  rw [memP, List.any_eq_true]
  exact ⟨l[j], List.getElem_mem h, by rw [e]; simp⟩
set_option maxRecDepth 100000 in
set_option maxHeartbeats 1000000 in
theorem indexP_any (l : List (Int × Int)) (u v : Int) (a : Option Addr) (c : Nat) (w : World) (h : RowAt w a (pcells l)) (hl : l.length ≤ 1000000) :
    Calls Tryd.prog 89 #[.slice a l.length c, .agg #[.int .i64 u, .int .i64 v]] w fun e w' => ∃ z : Int, e = .returned (.int .i64 z) ∧ decide (0 ≤ z) = memP (u, v) l ∧ Fresh w w' := by
  have HR := Lib.hid h
  have HB := Lib.hid (at_new w (.cells #[.int .i64 u, .int .i64 v] 55))
  have HF0 := Lib.hid ((Fresh.refl w).alloc (.cells #[.int .i64 u, .int .i64 v] 55))
  clear h
  go_enter Tryd.func89, Tryd.ntmps89
  go_wp2
  generalize w.alloc (.cells #[.int .i64 u, .int .i64 v] 55) = W0 at *
  go_loopw [8] (fun a8 wr => ∃ (k : Nat), a8 = .int .i64 (k : Int) ∧ k ≤ l.length ∧ Hid (memP (u, v) (l.take k) = false) ∧ Hid (Fresh W0 wr)) (fun a8 _ => l.length - (intOf a8).toNat)
  case atStart => exact ⟨0, rfl, Nat.zero_le _, rfl, Fresh.refl _⟩
  case round =>
    obtain ⟨k, rfl, hk, HE, HF⟩ := hrel
    have h9 := HF.out.at HB.out
    have r0 := cell_of_at h9 (i := 0) (v := .int .i64 u) rfl
    have r1 := cell_of_at h9 (i := 1) (v := .int .i64 v) rfl
    clear h9
    by_cases hlt : k < l.length
    · obtain ⟨g, o1, rfl, hc⟩ := prow_form ((HR.out.move HF0.out).move HF.out) hlt
      obtain ⟨c0, c1⟩ := hc k hlt
      have HSN := Lib.hid (memP_take hlt HE.out)
      have HYE := Lib.hid (@memP_yes l (u, v) k hlt)
      clear hc
      obtain ⟨y, hy⟩ : ∃ y, y = l[k] := ⟨_, rfl⟩
      rw [← hy] at c0 c1 HSN HYE
      clear hy
      obtain ⟨yn, yp⟩ := y
      dsimp only at c0 c1
      by_cases h1 : u = yn
      · by_cases h2 : v = yp
        · subst h1 h2
          have HM := Lib.hid (HYE.out rfl)
          clear HYE HSN
          go_wp2_with (fail)
          go_quiet (fail)
          go_wp2
          all_goals try (exfalso; omega)
          go_ret
          exact ⟨_, rfl, by rw [HM.out]; exact decide_eq_true (by omega), (HF0.out.trans HF.out).trans (fresh_drewN _ _)⟩
        · have HN : Hid (memP (u, v) (l.take (k + 1)) = false) := by
            rw [Hid, HSN.out, decide_eq_false_iff_not]
            intro e
            cases e
            exact h2 rfl
          subst h1
          have e1 : (v == yp) = false := by rw [beq_eq_false_iff_ne]; exact h2
          clear HYE HSN
          go_wp2_with (fail)
          go_quiet (fail)
          go_wp2
          all_goals try (exfalso; omega)
          go_roundw
          case rel => exact ⟨k + 1, by simp, by omega, HN.out, HF.out.trans (fresh_drewN _ _)⟩
          case measure => simp [intOf]; omega
      · have HN : Hid (memP (u, v) (l.take (k + 1)) = false) := by
          rw [Hid, HSN.out, decide_eq_false_iff_not]
          intro e
          cases e
          exact h1 rfl
        have e1 : (u == yn) = false := by rw [beq_eq_false_iff_ne]; exact h1
        clear HYE HSN
        go_wp2_with (fail)
        go_quiet (fail)
        go_wp2
        all_goals try (exfalso; omega)
        go_roundw
        case rel => exact ⟨k + 1, by simp, by omega, HN.out, HF.out.trans (fresh_drewN _ _)⟩
        case measure => simp [intOf]; omega
    · obtain rfl : k = l.length := by omega
      have HM : Hid (memP (u, v) l = false) := by have := HE.out; rwa [List.take_length] at this
      go_wp2
      all_goals try (exfalso; omega)
      go_ret
      exact ⟨_, rfl, by rw [HM.out]; decide, HF0.out.trans HF.out⟩
set_option maxRecDepth 100000 in
theorem containsP_any (l : List (Int × Int)) (u v : Int) (a : Option Addr) (c : Nat) (w : World) (h : RowAt w a (pcells l)) (hl : l.length ≤ 1000000) :
    Calls Tryd.prog 79 #[.slice a l.length c, .agg #[.int .i64 u, .int .i64 v]] w fun e w' => e = .returned (.bool (memP (u, v) l)) ∧ Fresh w w' := by
  have HF0 := Lib.hid ((Fresh.refl w).alloc (.cells #[.int .i64 u, .int .i64 v] 55))
  have HI := Lib.hid (indexP_any l u v a c _ (h.move HF0.out) hl)
  clear h
  generalize memP (u, v) l = r at *
  go_enter Tryd.func79, Tryd.ntmps79
  go_wp2_with (fail)
  refine HI.out.mono ?_
  rintro e w1 ⟨z, rfl, hz, hf⟩
  have HZ := Lib.hid hz
  clear hz
  go_wp2
  all_goals try (exfalso; omega)
  go_ret
  exact ⟨ret_bool HZ.out, HF0.out.trans hf⟩
theorem prow_take {w : World} {a : Option Addr} {l : List (Int × Int)} (h : RowAt w a (pcells l)) (k : Nat) : RowAt w a (pcells (l.take k)) := by
  by_cases h0 : l = []
  · subst h0; simpa using h
  · have hne : pcells l ≠ [] := pcells_ne (i := 0) (List.length_pos_iff.2 h0)
    obtain ⟨g, o, e, hc⟩ := h.form hne
    refine .inr ⟨g, o, e, fun j x hj => hc j x ?_⟩
    have hs : pcells l = pcells (l.take k) ++ pcells (l.drop k) := by
      unfold pcells
      rw [← List.flatMap_append, List.take_append_drop]
    rw [hs, List.getElem?_append_left (List.getElem?_eq_some_iff.1 hj).1]
    exact hj
set_option maxRecDepth 100000 in
set_option maxHeartbeats 2000000 in
theorem portsFault_any (l : List (Int × Int)) (a : Option Addr) (c : Nat) (w : World) (h : RowAt w a (pcells l)) (hl : l.length ≤ 1000000) (hcap : l.length ≤ c) :
    Calls Tryd.prog 53 #[.slice a l.length c] w fun e w' => e = .returned (.int .i64 (portsE [] l)) ∧ Fresh w w' := by
  have HR := Lib.hid h
  clear h
  have HW := Lib.hid (fun (n m : Int) W => within_any n m W)
  have HK := Lib.hid (fun (n : Int) W => knownP_any n W)
  go_enter Tryd.func53, Tryd.ntmps53
  go_wp2
  go_loopw [7] (fun a7 wr => ∃ (k : Nat), a7 = .int .i64 (k : Int) ∧ k ≤ l.length ∧ Hid (portsE [] l = portsE (l.take k) (l.drop k)) ∧ Hid (Fresh w wr)) (fun a7 _ => l.length - (intOf a7).toNat)
  case atStart => exact ⟨0, rfl, Nat.zero_le _, rfl, Fresh.refl _⟩
  case round =>
    obtain ⟨k, rfl, hk, HE, HF⟩ := hrel
    by_cases hlt : k < l.length
    · obtain ⟨g, o1, rfl, hc⟩ := prow_form (HR.out.move HF.out) hlt
      obtain ⟨c0, c1⟩ := hc k hlt
      have HST : Hid (portsE [] l = if portBad l[k] = true then 7 else if memP l[k] (l.take k) = true then 8 else portsE (l.take (k + 1)) (l.drop (k + 1))) := by
        rw [Hid, HE.out, List.drop_eq_getElem_cons hlt, portsE, List.take_succ_eq_append_getElem hlt]
      have HTL : Hid ((l.take k).length = k) := by rw [Hid, List.length_take]; omega
      have HC : Hid (∀ (x y : Int) W, Fresh wr W → Calls Tryd.prog 79 #[.slice (some ⟨g, o1, none⟩) k c, .agg #[.int .i64 x, .int .i64 y]] W fun e w' => e = .returned (.bool (memP (x, y) (l.take k))) ∧ Fresh W w') := fun x y W f => by
        have := containsP_any (l.take k) x y (some ⟨g, o1, none⟩) c W (prow_take ((HR.out.move HF.out).move f) k) (by have := HTL.out; omega)
        rw [HTL.out] at this
        exact this
      clear hc
      obtain ⟨y, hy⟩ : ∃ y, y = l[k] := ⟨_, rfl⟩
      rw [← hy] at c0 c1 HST
      clear hy
      obtain ⟨pn, pp⟩ := y
      dsimp only at c0 c1
      have HC2 := Lib.hid (HC.out pn pp)
      clear HC
      cases hbad : portBad (pn, pp) with
      | true =>
        have HR2 : Hid (portsE [] l = 7) := by rw [Hid, HST.out, if_pos hbad]
        have hd : pn < 1 ∨ 65535 < pn ∨ pp < 0 ∨ 1 < pp := by
          unfold portBad at hbad
          simp only [Bool.or_eq_true, decide_eq_true_eq] at hbad
          exact hbad
        clear hbad HST HC2
        have HW1 := Lib.hid (fun W => HW.out pn 65535 W)
        have HK1 := Lib.hid (fun W => HK.out pp W)
        by_cases hw : 1 ≤ pn ∧ pn ≤ 65535
        · rw [decide_eq_true hw.1, decide_eq_true hw.2] at HW1
          have hk2 : (decide (0 ≤ pp) && decide (pp < 2)) = false := by
            rw [Bool.eq_false_iff]; intro e
            simp only [Bool.and_eq_true, decide_eq_true_eq] at e
            omega
          rw [hk2] at HK1
          clear hw hk2
          go_wp2_with (first | (go_at_call 30; refine (HW1.out _).mono ?_; rintro e w' ⟨rfl, rfl⟩) | (go_at_call 42; refine (HK1.out _).mono ?_; rintro e w' ⟨rfl, rfl⟩))
          all_goals try (exfalso; omega)
          go_ret
          exact ⟨ret_int HR2.out.symm, HF.out.alloc _⟩
        · have hw2 : (decide (1 ≤ pn) && decide (pn ≤ 65535)) = false := by
            rw [Bool.eq_false_iff]; intro e
            simp only [Bool.and_eq_true, decide_eq_true_eq] at e
            exact hw e
          rw [hw2] at HW1
          clear hw hw2 HK1
          go_wp2_with (first | (go_at_call 30; refine (HW1.out _).mono ?_; rintro e w' ⟨rfl, rfl⟩))
          all_goals try (exfalso; omega)
          go_ret
          exact ⟨ret_int HR2.out.symm, HF.out.alloc _⟩
      | false =>
        have hd : 1 ≤ pn ∧ pn ≤ 65535 ∧ 0 ≤ pp ∧ pp ≤ 1 := by
          unfold portBad at hbad
          simp only [Bool.or_eq_false_iff, decide_eq_false_iff_not] at hbad
          omega
        obtain ⟨z1, z2, z3, z4⟩ := hd
        have HW1 := Lib.hid (fun W => HW.out pn 65535 W)
        have HK1 := Lib.hid (fun W => HK.out pp W)
        rw [decide_eq_true z1, decide_eq_true z2] at HW1
        rw [decide_eq_true z3, decide_eq_true (show pp < 2 by omega)] at HK1
        have HST2 : Hid (portsE [] l = if memP (pn, pp) (l.take k) = true then 8 else portsE (l.take (k + 1)) (l.drop (k + 1))) := by rw [Hid, HST.out, if_neg (by rw [hbad]; decide)]
        clear hbad HST
        have i1 : (0 : Int) ≤ (k : Int) := by omega
        have i2 : (k : Int) ≤ (l.length : Int) := by omega
        have i3 : (k : Int) ≤ (c : Int) := by omega
        have i4 : (l.length : Int) ≤ (c : Int) := by omega
        have HB9 := Lib.hid (at_new wr (.cells #[.int .i64 pn, .int .i64 pp] 55))
        have HF1 := Lib.hid ((Fresh.refl wr).alloc (.cells #[.int .i64 pn, .int .i64 pp] 55))
        cases hm : memP (pn, pp) (l.take k) with
        | true =>
          have HR2 : Hid (portsE [] l = 8) := by rw [Hid, HST2.out, if_pos hm]
          rw [hm] at HC2
          clear hm HST2
          go_wp2_with (first | (go_at_call 30; refine (HW1.out _).mono ?_; rintro e w' ⟨rfl, rfl⟩) | (go_at_call 42; refine (HK1.out _).mono ?_; rintro e w' ⟨rfl, rfl⟩))
          all_goals try (exfalso; omega)
          generalize wr.alloc (.cells #[.int .i64 pn, .int .i64 pp] 55) = W1 at *
          have r0 := cell_of_at HB9.out (i := 0) (v := .int .i64 pn) rfl
          have r1 := cell_of_at HB9.out (i := 1) (v := .int .i64 pp) rfl
          go_region_with (go_at_call 79; refine (HC2.out _ HF1.out.drew).mono ?_; rintro e W2 ⟨rfl, hf⟩; have HF3 := Lib.hid (HF.out.trans (HF1.out.drew.trans hf)); clear hf)
          all_goals go_wp2
          all_goals try (exfalso; omega)
          all_goals go_ret
          all_goals exact ⟨ret_int HR2.out.symm, HF3.out⟩
        | false =>
          have HN2 : Hid (portsE [] l = portsE (l.take (k + 1)) (l.drop (k + 1))) := by rw [Hid, HST2.out, if_neg (by rw [hm]; decide)]
          rw [hm] at HC2
          clear hm HST2
          go_wp2_with (first | (go_at_call 30; refine (HW1.out _).mono ?_; rintro e w' ⟨rfl, rfl⟩) | (go_at_call 42; refine (HK1.out _).mono ?_; rintro e w' ⟨rfl, rfl⟩))
          all_goals try (exfalso; omega)
          generalize wr.alloc (.cells #[.int .i64 pn, .int .i64 pp] 55) = W1 at *
          have r0 := cell_of_at HB9.out (i := 0) (v := .int .i64 pn) rfl
          have r1 := cell_of_at HB9.out (i := 1) (v := .int .i64 pp) rfl
          go_region_with (go_at_call 79; refine (HC2.out _ HF1.out.drew).mono ?_; rintro e W2 ⟨rfl, hf⟩; have HF3 := Lib.hid (HF.out.trans (HF1.out.drew.trans hf)); clear hf)
          all_goals go_wp2
          all_goals try (exfalso; omega)
          all_goals go_roundw
          case rel => exact ⟨k + 1, by simp, by omega, HN2.out, HF3.out⟩
          case measure => simp [intOf]; omega
    · obtain rfl : k = l.length := by omega
      have HR2 : Hid (portsE [] l = 0) := by rw [Hid, HE.out, List.drop_length]; rfl
      go_wp2
      all_goals try (exfalso; omega)
      go_ret
      exact ⟨ret_int HR2.out.symm, HF.out⟩
end Go.Proofs.YtfhhmajkacjbgaaDoor
namespace Go.Proofs.YtfhhmajkacjbgaaDoor
open Go.ChangeShapes Go.WideShapes Go.ChangeAt Go.RowKit

def key (s : ByteArray) : Lit := .string s.data.toList
theorem key_inj {a b : ByteArray} (h : key a = key b) : a = b := by
  unfold key at h
  injection h with h
  exact ByteArray.ext (Array.ext' h)
theorem key_of (s : ByteArray) (hs : s.size ≤ 1000000) : keyOf Tryd.prog 9 (.string s) = some (key s) := Go.WideMaps.keyOf_string_mk Tryd.underlying9 (by unfold maxLen; omega)
theorem law9 : Maps.Keyed Tryd.prog 9 := Maps.string_keyed Tryd.underlying9
theorem zero4 (w : World) : (zeroValue 4).run Tryd.prog w = .ok (.bool false) w := by kernel_rfl
def boolR : Value → Option (DataW Unit × List MemPlace)
  | .bool x => some (.lit (.bool x), [])
  | _ => none
theorem boolR_inv {v : Value} {y : DataW Unit × List MemPlace} (h : boolR v = some y) : ∃ x, v = .bool x ∧ y = (.lit (.bool x), []) := by
  unfold boolR at h
  split at h
  · exact ⟨_, rfl, by cases h; rfl⟩
  · cases h
/-- Block b is a map of at most n keys: these were met. -/
def seenIs (w : World) (b n : Nat) (L : List ByteArray) : Prop := ∃ D : DataW Unit, w.ownsMap Tryd.prog 9 boolR b n D ∧ ∀ s : ByteArray, D.atKey (key s) (.lit (.bool false)) = .lit (.bool (memT s L))
theorem seen_made (w : World) : seenIs (w.alloc (.map #[] 0)) w.heap.size 0 [] := ⟨_, World.ownsMap_made w _ _ _, fun _ => rfl⟩
theorem seenIs.look {w : World} {b n : Nat} {L : List ByteArray} (h : seenIs w b n L) (s : ByteArray) (hs : s.size ≤ 1000000) : (Instr.lookup 68 (.map (some b)) (.string s) false).run Tryd.prog w = .ok (.bool (memT s L)) w := by
  obtain ⟨D, h1, h2⟩ := h
  obtain ⟨v, ps, hr, hv⟩ := h1.lookup law9 Tryd.underlying68 (zero4 w) (zd := .lit (.bool false)) (zp := []) rfl (key_of s hs)
  obtain ⟨x, rfl, e⟩ := boolR_inv hv
  rw [h2 s] at e
  simp only [Prod.mk.injEq, DataW.lit.injEq, Lit.bool.injEq] at e
  rw [e.1]; exact hr
theorem seenIs.move {w w' : World} {b n : Nat} {L : List ByteArray} (h : seenIs w b n L) (hb : w'.heap[b]? = w.heap[b]?) : seenIs w' b n L := by
  obtain ⟨D, ⟨es, clock, h1, r⟩, h2⟩ := h
  exact ⟨D, ⟨es, clock, hb.trans h1, r⟩, h2⟩
theorem seenIs.lt {w : World} {b n : Nat} {L : List ByteArray} (h : seenIs w b n L) : b < w.heap.size := by
  obtain ⟨D, h1, _⟩ := h; exact h1.lt
theorem seenIs.fresh {w w' : World} {b n : Nat} {L : List ByteArray} (h : seenIs w b n L) (f : Fresh w w') : seenIs w' b n L := h.move (f.block b h.lt)
theorem seen_put {D : DataW Unit} {L : List ByteArray} (hD : Maps.IsMap D) (h : ∀ s : ByteArray, D.atKey (key s) (.lit (.bool false)) = .lit (.bool (memT s L))) (nm : ByteArray) (hn : nm.size ≤ 1000000) (s : ByteArray) :
    (D.put (key nm) (.lit (.bool true))).atKey (key s) (.lit (.bool false)) = .lit (.bool (memT s (L ++ [nm]))) := by
  have hk : WideAt.IsKeyLit (key nm) := law9.key (v := .string nm) (l := key nm) (key_of nm hn)
  by_cases hs : s = nm
  · subst hs
    have e : memT s (L ++ [s]) = true := by simp [memT]
    rw [Maps.atKey_put_same hD hk, e]
  · rw [Maps.atKey_put_other (fun e => hs (key_inj e)), h s]
    have e : memT s (L ++ [nm]) = memT s L := by simp [memT, Ne.symm hs]
    rw [e]
/-- What is wrong with a name, of which is told whether it may be, behind these. -/
def nameE (may : Bool) (s : ByteArray) (L : List ByteArray) : Int := if may = true then (if memT s L = true then 8 else 0) else 13
set_option maxRecDepth 100000 in
theorem nameFault_any (s : ByteArray) (may : Bool) (b n : Nat) (L : List ByteArray) (w : World) (hs : s.size ≤ 1000000) (hn : n ≤ 1000000) (h : seenIs w b n L) :
    Calls Tryd.prog 50 #[.string s, .bool may, .map (some b)] w fun e w' => e = .returned (.int .i64 (nameE may s L)) ∧ (nameE may s L = 0 → seenIs w' b (n + 1) (L ++ [s])) ∧ w.grownBy w' (some b) := by
  have hg0 : w.grownBy w (some b) := ⟨rfl, rfl, rfl, Nat.le_refl _, fun _ _ _ => rfl⟩
  cases may with
  | false =>
    have HE : Hid (nameE false s L = 13) := rfl
    have HG := Lib.hid hg0
    clear h hg0
    generalize nameE false s L = E at *
    go_enter Tryd.func50, Tryd.ntmps50
    go_wp2
    go_ret
    exact ⟨ret_int HE.out.symm, fun e => absurd (HE.out.symm.trans e) (by decide), HG.out⟩
  | true =>
    have hlook := h.look s hs
    cases hm : memT s L with
    | true =>
      have HE : Hid (nameE true s L = 8) := by rw [Hid, nameE, if_pos rfl, if_pos hm]
      have HG := Lib.hid hg0
      rw [hm] at hlook
      clear h hg0 hm
      generalize nameE true s L = E at *
      go_enter Tryd.func50, Tryd.ntmps50
      go_wp2
      go_ret
      exact ⟨ret_int HE.out.symm, fun e => absurd (HE.out.symm.trans e) (by decide), HG.out⟩
    | false =>
      have HE : Hid (nameE true s L = 0) := by rw [Hid, nameE, if_pos rfl, if_neg (by rw [hm]; decide)]
      rw [hm] at hlook
      obtain ⟨D, hown, hD⟩ := h
      have HO := Lib.hid hown
      have HD := Lib.hid hD
      clear hm hown hD hg0
      generalize nameE true s L = E at *
      go_enter Tryd.func50, Tryd.ntmps50
      go_wp2_with (at_mapUpdate; refine wpList_mapUpdate_own _ rfl _ _ _ 68 rfl 9 4 law9 Tryd.underlying68 boolR b n D rfl HO.out (by unfold maxLen; omega) _ _ _ rfl rfl (key_of s hs) _ [] rfl ?_; intro w5 ho5 hg5; have HO5 := Lib.hid ho5; have HG5 := Lib.hid hg5; clear ho5 hg5)
      go_ret
      exact ⟨ret_int HE.out.symm, fun _ => ⟨_, HO5.out, fun t => seen_put HO.out.isMap HD.out s hs t⟩, HG5.out⟩
end Go.Proofs.YtfhhmajkacjbgaaDoor
