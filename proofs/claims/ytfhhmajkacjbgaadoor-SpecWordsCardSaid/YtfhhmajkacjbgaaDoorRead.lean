/-
  Package utf's reader: what each of its methods does on the roads that quoted texts take.
-/
import Derived.Test.YtfhhmajkacjbgaaDoorQuote
import Derived.Lib.AppendStr
import Derived.Deep.RegionHeld3
namespace Go.Proofs.YtfhhmajkacjbgaaDoor
open Go.ChangeShapes Go.WideShapes Go.ChangeAt Go.RowKit
attribute [local go_sem ↓] Go.wp_at_zero Go.wp_at_succ
variable {w : World}

def bs (l : List UInt8) : ByteArray := ⟨l.toArray⟩
theorem bs_toList (l : List UInt8) : (bs l).data.toList = l := by simp [bs]
theorem bs_size (l : List UInt8) : (bs l).size = l.length := by simp [bs, ByteArray.size]
theorem bs_drop (n : Nat) (l : List UInt8) : (bs l).extract n (bs l).size = bs (l.drop n) := by
  apply ByteArray.ext
  apply Array.toList_inj.1
  rw [ByteArray.data_extract, Array.toList_extract, bs_toList, bs_size, bs_toList]
  simp [List.take_of_length_le]
/-- The first byte, and the others. -/
structure Cons (r : ByteArray) (c : UInt8) (r1 : ByteArray) : Prop where
  pos : 0 < r.size
  get : r[0] = c
  cut : r.extract 1 r.size = r1
  ne : r.toList.isEmpty = false
theorem bs_cons (c : UInt8) (l : List UInt8) : Cons (bs (c :: l)) c (bs l) :=
  ⟨by rw [bs_size]; simp, rfl, bs_drop 1 (c :: l), by
    rw [Lib.toList_data, bs_toList]; rfl⟩
/-- A reader at block b: what it wasn't read yet, and what was read. -/
structure Rdr (w : World) (b : Nat) (rest : List UInt8) (v : Value) (text : List UInt8) : Prop where
  box : w.heap[b]? = some (.cells #[.string (bs rest), v] 103 (0, 0))
  buf : Buf w (b + 1) v text
theorem Rdr.c0 {w : World} {b : Nat} {rest : List UInt8} {v : Value} {text : List UInt8} (h : Rdr w b rest v text) : w.cell? ⟨b, 0, none⟩ = some (.string (bs rest)) := cell_of_at h.box rfl
theorem Rdr.c1 {w : World} {b : Nat} {rest : List UInt8} {v : Value} {text : List UInt8} (h : Rdr w b rest v text) : w.cell? ⟨b, 1, none⟩ = some v := cell_of_at h.box rfl
theorem Rdr.f0 {w : World} {b : Nat} {rest : List UInt8} {v : Value} {text : List UInt8} (h : Rdr w b rest v text) : w.frozen? ⟨b, 0, none⟩ = false := by simp [World.frozen?, h.box]
theorem Rdr.f1 {w : World} {b : Nat} {rest : List UInt8} {v : Value} {text : List UInt8} (h : Rdr w b rest v text) : w.frozen? ⟨b, 1, none⟩ = false := by simp [World.frozen?, h.box]
theorem Rdr.fresh {w w' : World} {b : Nat} {rest : List UInt8} {v : Value} {text : List UInt8} (h : Rdr w b rest v text) (f : Fresh w w') : Rdr w' b rest v text :=
  ⟨by rw [f.block b (lt_of_at h.box)]; exact h.box, h.buf.fresh f⟩
theorem Rdr.set0 {w : World} {b : Nat} {rest r2 : List UInt8} {v : Value} {text : List UInt8} (h : Rdr w b rest v text) : Rdr (w.setCell ⟨b, 0, none⟩ (.string (bs r2))) b r2 v text := by
  refine ⟨by simp [World.setCell, Array.getElem?_modify, h.box], h.buf.kept (grown_set w b 0 _) ?_⟩
  rcases hv : v.ownBlock with _ | g
  · exact .inl rfl
  · refine .inr (fun e => ?_)
    injection e with e
    have := (h.buf.lt g hv).1
    omega
/-- What a method leaves: the number e, and the reader so. -/
def Reads (w : World) (b : Nat) (rest text : List UInt8) (n : Int) (e : Ending) (w' : World) : Prop := e = .returned (.int .i64 n) ∧ (∃ v, Rdr w' b rest v text) ∧ Below b w w'
theorem grown_alloc {w w' : World} {o : Obj} {row : Option Nat} (h : (w.alloc o).grownBy w' row) : w.grownBy w' row :=
  ⟨h.os, h.tape, h.output, by have := h.size; rw [World.size_alloc] at this; omega, fun k hk hne => (h.block k (by rw [World.size_alloc]; omega) hne).trans (Below.heap_alloc _ _ _ hk)⟩
/-- Behind an append to what was read, and its store. -/
structure Pushed (w w2 : World) (b : Nat) (rest : List UInt8) (v v2 : Value) (text : List UInt8) : Prop where
  c0 : w2.cell? ⟨b, 0, none⟩ = some (.string (bs rest))
  f0 : w2.frozen? ⟨b, 0, none⟩ = false
  c1 : w2.cell? ⟨b, 1, none⟩ = some v
  f1 : w2.frozen? ⟨b, 1, none⟩ = false
  lt : b < w2.heap.size
  rdr : Rdr (w2.setCell ⟨b, 1, none⟩ v2) b rest v2 text
  below : Below b w (w2.setCell ⟨b, 1, none⟩ v2)
theorem Rdr.push {w w2 : World} {b : Nat} {rest : List UInt8} {v v2 : Value} {text m : List UInt8} (h : Rdr w b rest v text) (hown : Buf w2 (b + 1) v2 (text ++ m)) (hg : w.grownBy w2 v.ownBlock) : Pushed w w2 b rest v v2 (text ++ m) := by
  have hne : some b ≠ v.ownBlock := fun e => by have := (h.buf.lt b e.symm).1; omega
  have hb : w2.heap[b]? = some (.cells #[.string (bs rest), v] 103 (0, 0)) := by rw [hg.block b (lt_of_at h.box) hne]; exact h.box
  refine ⟨cell_of_at hb rfl, by simp [World.frozen?, hb], cell_of_at hb rfl, by simp [World.frozen?, hb], lt_of_at hb, ⟨by simp [World.setCell, Array.getElem?_modify, hb], hown.kept (grown_set w2 b 1 _) ?_⟩, ?_⟩
  · rcases hv : v2.ownBlock with _ | g
    · exact .inl rfl
    · refine .inr (fun e => ?_)
      injection e with e
      have := (hown.lt g hv).1
      omega
  · exact ((Below.refl b w).grown hg (Nat.le_of_lt (lt_of_at h.box)) (fun k e => by have := (h.buf.lt k e).1; omega)).setCell (Nat.le_refl _) _
theorem Rdr.below0 {w : World} {b : Nat} {u : Value} : Below b w (w.setCell ⟨b, 0, none⟩ u) := (Below.refl b w).setCell (Nat.le_refl _) _
theorem news_set (w : World) (a : Addr) (u : Value) (cs : Array Value) (l : List UInt8) (h : cs.toList = vals l) : ∀ j x, (vals l)[j]? = some x → ((w.setCell a u).alloc (.cells cs 5)).cell? ((⟨w.heap.size, 0, none⟩ : Addr).add j) = some x := by
  have := news_at (w.setCell a u) cs l h
  rw [show (w.setCell a u).heap.size = w.heap.size by simp [World.setCell]] at this
  exact this
theorem digit_num (c : UInt8) (w : World) (h0 : 48 ≤ c.toNat) (h1 : c.toNat ≤ 57) : Calls Tryd.prog 105 #[.int .u8 (c.toNat : Int)] w fun e w' => e = .returned (.tuple #[.int .i32 ((c.toNat : Int) - 48), .bool true]) ∧ w = w' := by
  have a0 : (48 : Int) ≤ (c.toNat : Int) := by omega
  have a1 : (c.toNat : Int) ≤ 57 := by omega
  clear h0 h1
  go_enter Tryd.func105, Tryd.ntmps105
  go_wp2
  go_ret2
  exact ⟨rfl, rfl⟩
theorem digit_low (c : UInt8) (w : World) (h0 : 97 ≤ c.toNat) (h1 : c.toNat ≤ 102) : Calls Tryd.prog 105 #[.int .u8 (c.toNat : Int)] w fun e w' => e = .returned (.tuple #[.int .i32 ((c.toNat : Int) - 87), .bool true]) ∧ w = w' := by
  have a0 : (97 : Int) ≤ (c.toNat : Int) := by omega
  have a1 : (c.toNat : Int) ≤ 102 := by omega
  have a2 : ¬ (c.toNat : Int) ≤ 57 := by omega
  have a3 : (48 : Int) ≤ (c.toNat : Int) := by omega
  have HE : Hid ((c.toNat : Int) - 87 = (c.toNat : Int) - 97 + 10) := by rw [Hid]; omega
  clear h0 h1
  go_enter Tryd.func105, Tryd.ntmps105
  go_wp2
  go_ret2
  exact ⟨by rw [HE.out]; rfl, rfl⟩
theorem first_no (x : Int) (w : World) (h0 : 0 ≤ x) (h1 : x < 55296) : Calls Tryd.prog 96 #[.int .i32 x] w fun e w' => e = .returned (.bool false) ∧ w = w' := by
  have a : ¬ 55296 ≤ x := by omega
  go_enter Tryd.func96, Tryd.ntmps96
  go_wp2
  go_ret
  exact ⟨rfl, rfl⟩
theorem second_no (x : Int) (w : World) (h0 : 0 ≤ x) (h1 : x < 55296) : Calls Tryd.prog 98 #[.int .i32 x] w fun e w' => e = .returned (.bool false) ∧ w = w' := by
  have a : ¬ 56320 ≤ x := by omega
  go_enter Tryd.func98, Tryd.ntmps98
  go_wp2
  go_ret
  exact ⟨rfl, rfl⟩
theorem mark_yes (b : Nat) (rest : List UInt8) (v : Value) (text : List UInt8) (w : World) (h : Rdr w b (34 :: rest) v text) : Calls Tryd.prog 69 #[.pointer (some ⟨b, 0, none⟩)] w fun e w' => e = .returned (.bool true) ∧ w = w' := by
  have c0 := h.c0
  obtain ⟨p1, p2, _, p4⟩ := bs_cons 34 rest
  generalize bs (34 :: rest) = r at *
  clear h
  go_enter Tryd.func69, Tryd.ntmps69
  go_wp2
  go_ret
  exact ⟨rfl, rfl⟩
theorem mark_no (b : Nat) (c : UInt8) (rest : List UInt8) (v : Value) (text : List UInt8) (w : World) (hc : c.toNat ≠ 34) (h : Rdr w b (c :: rest) v text) : Calls Tryd.prog 69 #[.pointer (some ⟨b, 0, none⟩)] w fun e w' => e = .returned (.bool false) ∧ w = w' := by
  have c0 := h.c0
  obtain ⟨p1, p2, _, p4⟩ := bs_cons c rest
  generalize bs (c :: rest) = r at *
  have e1 : ((c.toNat : Int) == 34) = false := by rw [beq_eq_false_iff_ne]; omega
  clear h hc
  go_enter Tryd.func69, Tryd.ntmps69
  go_wp2
  go_ret
  exact ⟨rfl, rfl⟩
/-! ### four digits -/
def isDig (c : UInt8) : Prop := (48 ≤ c.toNat ∧ c.toNat ≤ 57) ∨ (97 ≤ c.toNat ∧ c.toNat ≤ 102)
def dv (c : UInt8) : Int := if c.toNat ≤ 57 then (c.toNat : Int) - 48 else (c.toNat : Int) - 87
theorem dv_bd {c : UInt8} (h : isDig c) : 0 ≤ dv c ∧ dv c ≤ 15 := by
  unfold dv
  unfold isDig at h
  split <;> omega
theorem digit_any (c : UInt8) (w : World) (h : isDig c) : Calls Tryd.prog 105 #[.int .u8 (c.toNat : Int)] w fun e w' => e = .returned (.tuple #[.int .i32 (dv c), .bool true]) ∧ w = w' := by
  rcases h with h | h
  · rw [dv, if_pos h.2]
    exact digit_num c w h.1 h.2
  · rw [dv, if_neg (by omega)]
    exact digit_low c w h.1 h.2
def valD (l : List UInt8) : Int := l.foldl (fun a c => a * 16 + dv c) 0
theorem valD_snoc (l : List UInt8) (c : UInt8) : valD (l ++ [c]) = valD l * 16 + dv c := by simp [valD]
theorem valD_bd (l : List UInt8) (hl : l.length ≤ 3) (hd : ∀ c ∈ l, isDig c) : 0 ≤ valD l ∧ valD l ≤ 4095 := by
  rcases l with _ | ⟨a, _ | ⟨b, _ | ⟨c, _ | ⟨d, l⟩⟩⟩⟩
  · simp [valD]
  · have := dv_bd (hd a (by simp))
    simp [valD]; omega
  · have := dv_bd (hd a (by simp)); have := dv_bd (hd b (by simp))
    simp [valD]; omega
  · have := dv_bd (hd a (by simp)); have := dv_bd (hd b (by simp)); have := dv_bd (hd c (by simp))
    simp [valD]; omega
  · simp at hl
theorem take_four {ds : List UInt8} {k : Nat} (h : k < ds.length) : ds.take (k + 1) = ds.take k ++ [ds[k]] := by
  rw [List.take_succ_eq_append_getElem h]
set_option maxRecDepth 100000 in
set_option maxHeartbeats 2000000 in
theorem number_any (b : Nat) (ds rest : List UInt8) (v : Value) (text : List UInt8) (w : World) (h4 : ds.length = 4) (hd : ∀ c ∈ ds, isDig c) (h : Rdr w b (ds ++ rest) v text) :
    Calls Tryd.prog 95 #[.pointer (some ⟨b, 0, none⟩)] w fun e w' => e = .returned (.tuple #[.int .i32 (valD ds), .int .i64 0]) ∧ Rdr w' b rest v text ∧ Below b w w' := by
  have H := Lib.hid h
  have HD := Lib.hid hd
  have H4 := Lib.hid h4
  clear h hd h4
  go_enter Tryd.func95, Tryd.ntmps95
  go_wp2
  go_loopw [4, 7] (fun a4 a7 wr => ∃ (k : Nat) (n : Int), k ≤ 4 ∧ a7 = .int .i64 k ∧ a4 = .int .i32 n ∧ Hid (n = valD (ds.take k)) ∧ Hid (Rdr wr b (ds.drop k ++ rest) v text) ∧ Hid (Below b w wr)) (fun _ a7 _ => 4 - (intOf a7).toNat)
  case atStart => exact ⟨0, 0, by omega, rfl, rfl, rfl, by rw [Hid, List.drop_zero]; exact H.out, Below.refl _ _⟩
  case round =>
    obtain ⟨k, n, hk, rfl, rfl, HN, HR, HB⟩ := hrel
    by_cases hlt : k < 4
    · have hk4 : k < ds.length := by rw [H4.out]; exact hlt
      have HT : Hid (valD (ds.take (k + 1)) = n * 16 + dv ds[k]) := by rw [Hid, take_four hk4, valD_snoc, HN.out]
      have hbd : 0 ≤ n ∧ n ≤ 4095 := by
        rw [HN.out]
        exact valD_bd _ (by rw [List.length_take]; omega) (fun c hc => HD.out c (List.mem_of_mem_take hc))
      obtain ⟨n0, n1⟩ := hbd
      have hc0 := HD.out ds[k] (List.getElem_mem hk4)
      have hR := HR.out
      rw [List.drop_eq_getElem_cons hk4, List.cons_append] at hR
      generalize ds[k] = c at *
      have hdv := dv_bd hc0
      obtain ⟨d0, d1⟩ := hdv
      have HC := Lib.hid hc0
      clear hc0
      have c0 := hR.c0
      have f0 := hR.f0
      have HR1 := Lib.hid (hR.set0 (r2 := ds.drop (k + 1) ++ rest))
      obtain ⟨p1, p2, p3, p4⟩ := bs_cons c (ds.drop (k + 1) ++ rest)
      generalize bs (c :: (ds.drop (k + 1) ++ rest)) = r at *
      generalize bs (ds.drop (k + 1) ++ rest) = r1 at *
      have HDG := Lib.hid (fun W => digit_any c W HC.out)
      generalize dv c = d at *
      clear hR
      go_wp2_with fail
      refine (HDG.out _).mono ?_
      rintro e w' ⟨rfl, rfl⟩
      go_wp2
      go_roundw
      case rel => exact ⟨k + 1, n * 16 + d, by omega, by go_num, rfl, HT.out.symm, HR1.out, HB.out.trans Rdr.below0⟩
      case measure => simp [intOf]; omega
    · obtain rfl : k = 4 := by omega
      have hR := HR.out
      rw [List.drop_eq_nil_of_le (by rw [H4.out]; exact Nat.le_refl _), List.nil_append] at hR
      have HR2 := Lib.hid hR
      have hn := HN.out
      rw [List.take_of_length_le (by rw [H4.out]; exact Nat.le_refl _)] at hn
      have HN2 := Lib.hid hn
      clear hR hn HR HN
      go_wp2
      go_ret2
      exact ⟨by rw [← HN2.out]; rfl, HR2.out, HB.out⟩
set_option maxRecDepth 100000 in
set_option maxHeartbeats 1000000 in
theorem escape_98 (b : Nat) (rest : List UInt8) (v : Value) (text : List UInt8) (w : World) (hl : text.length ≤ 1000000) (h : Rdr w b (98 :: rest) v text) : Calls Tryd.prog 83 #[.pointer (some ⟨b, 0, none⟩)] w (Reads w b rest (text ++ [8]) 0) := by
  obtain ⟨i0, hi, hz0, hz1, hz2⟩ := info_parts info5
  have c0 := h.c0
  have c1 := h.c1
  have f0 := h.f0
  have f1 := h.f1
  have H1 := Lib.hid (h.set0 (r2 := rest))
  have hx := Lib.hid (show Lib.indexByte (⟨#[98, 102, 110, 114, 116]⟩ : ByteArray).data.toList (98 : Int).toNat.toUInt8 = 0 by decide)
  have hbw := lt_of_at h.box
  obtain ⟨p1, p2, p3, p4⟩ := bs_cons 98 rest
  generalize bs (98 :: rest) = r at *
  generalize bs rest = r1 at *
  clear h
  go_enter Tryd.func83, Tryd.ntmps83
  go_wp2_with (first
    | (go_at_call 86; refine (idx_any _ _ _ _ hx.out).mono ?_; rintro e w' ⟨rfl, rfl⟩)
    | (at_builtin; refine wpList_append_lies _ rfl _ _ 101 rfl (b + 1) 5 i0 (.int .u8 0) 1 1 Tryd.underlying101 hi hz0 hz1 hz2 rfl (by decide) v text.length (vals text) rfl (H1.out.buf.alloc _) ⟨w.heap.size, 0, none⟩ 1 1 (vals [8]) rfl rfl (news_set w _ _ _ _ rfl) (vals_one _) (by decide) (by unfold maxLen; omega) (by omega) (by simp; omega) (w.heap.size + 1) (by simp) ?_; intro g cap w2 hown hgrow hat hlt; have HP := Lib.hid (H1.out.push (Buf.more hown rfl) (grown_alloc hgrow)); clear hown hgrow hat hlt; have d1 := HP.out.c1; have d2 := HP.out.f1; have d3 := HP.out.lt))
  go_ret
  exact ⟨rfl, ⟨_, HP.out.rdr⟩, Rdr.below0.trans HP.out.below⟩
set_option maxRecDepth 100000 in
set_option maxHeartbeats 1000000 in
theorem escape_102 (b : Nat) (rest : List UInt8) (v : Value) (text : List UInt8) (w : World) (hl : text.length ≤ 1000000) (h : Rdr w b (102 :: rest) v text) : Calls Tryd.prog 83 #[.pointer (some ⟨b, 0, none⟩)] w (Reads w b rest (text ++ [12]) 0) := by
  obtain ⟨i0, hi, hz0, hz1, hz2⟩ := info_parts info5
  have c0 := h.c0
  have c1 := h.c1
  have f0 := h.f0
  have f1 := h.f1
  have H1 := Lib.hid (h.set0 (r2 := rest))
  have hx := Lib.hid (show Lib.indexByte (⟨#[98, 102, 110, 114, 116]⟩ : ByteArray).data.toList (102 : Int).toNat.toUInt8 = 1 by decide)
  have hbw := lt_of_at h.box
  obtain ⟨p1, p2, p3, p4⟩ := bs_cons 102 rest
  generalize bs (102 :: rest) = r at *
  generalize bs rest = r1 at *
  clear h
  go_enter Tryd.func83, Tryd.ntmps83
  go_wp2_with (first
    | (go_at_call 86; refine (idx_any _ _ _ _ hx.out).mono ?_; rintro e w' ⟨rfl, rfl⟩)
    | (at_builtin; refine wpList_append_lies _ rfl _ _ 101 rfl (b + 1) 5 i0 (.int .u8 0) 1 1 Tryd.underlying101 hi hz0 hz1 hz2 rfl (by decide) v text.length (vals text) rfl (H1.out.buf.alloc _) ⟨w.heap.size, 0, none⟩ 1 1 (vals [12]) rfl rfl (news_set w _ _ _ _ rfl) (vals_one _) (by decide) (by unfold maxLen; omega) (by omega) (by simp; omega) (w.heap.size + 1) (by simp) ?_; intro g cap w2 hown hgrow hat hlt; have HP := Lib.hid (H1.out.push (Buf.more hown rfl) (grown_alloc hgrow)); clear hown hgrow hat hlt; have d1 := HP.out.c1; have d2 := HP.out.f1; have d3 := HP.out.lt))
  go_ret
  exact ⟨rfl, ⟨_, HP.out.rdr⟩, Rdr.below0.trans HP.out.below⟩
set_option maxRecDepth 100000 in
set_option maxHeartbeats 1000000 in
theorem escape_110 (b : Nat) (rest : List UInt8) (v : Value) (text : List UInt8) (w : World) (hl : text.length ≤ 1000000) (h : Rdr w b (110 :: rest) v text) : Calls Tryd.prog 83 #[.pointer (some ⟨b, 0, none⟩)] w (Reads w b rest (text ++ [10]) 0) := by
  obtain ⟨i0, hi, hz0, hz1, hz2⟩ := info_parts info5
  have c0 := h.c0
  have c1 := h.c1
  have f0 := h.f0
  have f1 := h.f1
  have H1 := Lib.hid (h.set0 (r2 := rest))
  have hx := Lib.hid (show Lib.indexByte (⟨#[98, 102, 110, 114, 116]⟩ : ByteArray).data.toList (110 : Int).toNat.toUInt8 = 2 by decide)
  have hbw := lt_of_at h.box
  obtain ⟨p1, p2, p3, p4⟩ := bs_cons 110 rest
  generalize bs (110 :: rest) = r at *
  generalize bs rest = r1 at *
  clear h
  go_enter Tryd.func83, Tryd.ntmps83
  go_wp2_with (first
    | (go_at_call 86; refine (idx_any _ _ _ _ hx.out).mono ?_; rintro e w' ⟨rfl, rfl⟩)
    | (at_builtin; refine wpList_append_lies _ rfl _ _ 101 rfl (b + 1) 5 i0 (.int .u8 0) 1 1 Tryd.underlying101 hi hz0 hz1 hz2 rfl (by decide) v text.length (vals text) rfl (H1.out.buf.alloc _) ⟨w.heap.size, 0, none⟩ 1 1 (vals [10]) rfl rfl (news_set w _ _ _ _ rfl) (vals_one _) (by decide) (by unfold maxLen; omega) (by omega) (by simp; omega) (w.heap.size + 1) (by simp) ?_; intro g cap w2 hown hgrow hat hlt; have HP := Lib.hid (H1.out.push (Buf.more hown rfl) (grown_alloc hgrow)); clear hown hgrow hat hlt; have d1 := HP.out.c1; have d2 := HP.out.f1; have d3 := HP.out.lt))
  go_ret
  exact ⟨rfl, ⟨_, HP.out.rdr⟩, Rdr.below0.trans HP.out.below⟩
set_option maxRecDepth 100000 in
set_option maxHeartbeats 1000000 in
theorem escape_114 (b : Nat) (rest : List UInt8) (v : Value) (text : List UInt8) (w : World) (hl : text.length ≤ 1000000) (h : Rdr w b (114 :: rest) v text) : Calls Tryd.prog 83 #[.pointer (some ⟨b, 0, none⟩)] w (Reads w b rest (text ++ [13]) 0) := by
  obtain ⟨i0, hi, hz0, hz1, hz2⟩ := info_parts info5
  have c0 := h.c0
  have c1 := h.c1
  have f0 := h.f0
  have f1 := h.f1
  have H1 := Lib.hid (h.set0 (r2 := rest))
  have hx := Lib.hid (show Lib.indexByte (⟨#[98, 102, 110, 114, 116]⟩ : ByteArray).data.toList (114 : Int).toNat.toUInt8 = 3 by decide)
  have hbw := lt_of_at h.box
  obtain ⟨p1, p2, p3, p4⟩ := bs_cons 114 rest
  generalize bs (114 :: rest) = r at *
  generalize bs rest = r1 at *
  clear h
  go_enter Tryd.func83, Tryd.ntmps83
  go_wp2_with (first
    | (go_at_call 86; refine (idx_any _ _ _ _ hx.out).mono ?_; rintro e w' ⟨rfl, rfl⟩)
    | (at_builtin; refine wpList_append_lies _ rfl _ _ 101 rfl (b + 1) 5 i0 (.int .u8 0) 1 1 Tryd.underlying101 hi hz0 hz1 hz2 rfl (by decide) v text.length (vals text) rfl (H1.out.buf.alloc _) ⟨w.heap.size, 0, none⟩ 1 1 (vals [13]) rfl rfl (news_set w _ _ _ _ rfl) (vals_one _) (by decide) (by unfold maxLen; omega) (by omega) (by simp; omega) (w.heap.size + 1) (by simp) ?_; intro g cap w2 hown hgrow hat hlt; have HP := Lib.hid (H1.out.push (Buf.more hown rfl) (grown_alloc hgrow)); clear hown hgrow hat hlt; have d1 := HP.out.c1; have d2 := HP.out.f1; have d3 := HP.out.lt))
  go_ret
  exact ⟨rfl, ⟨_, HP.out.rdr⟩, Rdr.below0.trans HP.out.below⟩
set_option maxRecDepth 100000 in
set_option maxHeartbeats 1000000 in
theorem escape_116 (b : Nat) (rest : List UInt8) (v : Value) (text : List UInt8) (w : World) (hl : text.length ≤ 1000000) (h : Rdr w b (116 :: rest) v text) : Calls Tryd.prog 83 #[.pointer (some ⟨b, 0, none⟩)] w (Reads w b rest (text ++ [9]) 0) := by
  obtain ⟨i0, hi, hz0, hz1, hz2⟩ := info_parts info5
  have c0 := h.c0
  have c1 := h.c1
  have f0 := h.f0
  have f1 := h.f1
  have H1 := Lib.hid (h.set0 (r2 := rest))
  have hx := Lib.hid (show Lib.indexByte (⟨#[98, 102, 110, 114, 116]⟩ : ByteArray).data.toList (116 : Int).toNat.toUInt8 = 4 by decide)
  have hbw := lt_of_at h.box
  obtain ⟨p1, p2, p3, p4⟩ := bs_cons 116 rest
  generalize bs (116 :: rest) = r at *
  generalize bs rest = r1 at *
  clear h
  go_enter Tryd.func83, Tryd.ntmps83
  go_wp2_with (first
    | (go_at_call 86; refine (idx_any _ _ _ _ hx.out).mono ?_; rintro e w' ⟨rfl, rfl⟩)
    | (at_builtin; refine wpList_append_lies _ rfl _ _ 101 rfl (b + 1) 5 i0 (.int .u8 0) 1 1 Tryd.underlying101 hi hz0 hz1 hz2 rfl (by decide) v text.length (vals text) rfl (H1.out.buf.alloc _) ⟨w.heap.size, 0, none⟩ 1 1 (vals [9]) rfl rfl (news_set w _ _ _ _ rfl) (vals_one _) (by decide) (by unfold maxLen; omega) (by omega) (by simp; omega) (w.heap.size + 1) (by simp) ?_; intro g cap w2 hown hgrow hat hlt; have HP := Lib.hid (H1.out.push (Buf.more hown rfl) (grown_alloc hgrow)); clear hown hgrow hat hlt; have d1 := HP.out.c1; have d2 := HP.out.f1; have d3 := HP.out.lt))
  go_ret
  exact ⟨rfl, ⟨_, HP.out.rdr⟩, Rdr.below0.trans HP.out.below⟩
set_option maxRecDepth 100000 in
set_option maxHeartbeats 1000000 in
theorem escape_34 (b : Nat) (rest : List UInt8) (v : Value) (text : List UInt8) (w : World) (hl : text.length ≤ 1000000) (h : Rdr w b (34 :: rest) v text) : Calls Tryd.prog 83 #[.pointer (some ⟨b, 0, none⟩)] w (Reads w b rest (text ++ [34]) 0) := by
  obtain ⟨i0, hi, hz0, hz1, hz2⟩ := info_parts info5
  have c0 := h.c0
  have c1 := h.c1
  have f0 := h.f0
  have f1 := h.f1
  have H1 := Lib.hid (h.set0 (r2 := rest))
  have hbw := lt_of_at h.box
  obtain ⟨p1, p2, p3, p4⟩ := bs_cons 34 rest
  generalize bs (34 :: rest) = r at *
  generalize bs rest = r1 at *
  clear h
  go_enter Tryd.func83, Tryd.ntmps83
  go_wp2_with (first
    | (at_builtin; refine wpList_append_lies _ rfl _ _ 101 rfl (b + 1) 5 i0 (.int .u8 0) 1 1 Tryd.underlying101 hi hz0 hz1 hz2 rfl (by decide) v text.length (vals text) rfl (H1.out.buf.alloc _) ⟨w.heap.size, 0, none⟩ 1 1 (vals [34]) rfl rfl (news_set w _ _ _ _ rfl) (vals_one _) (by decide) (by unfold maxLen; omega) (by omega) (by simp; omega) (w.heap.size + 1) (by simp) ?_; intro g cap w2 hown hgrow hat hlt; have HP := Lib.hid (H1.out.push (Buf.more hown rfl) (grown_alloc hgrow)); clear hown hgrow hat hlt; have d1 := HP.out.c1; have d2 := HP.out.f1; have d3 := HP.out.lt))
  go_ret
  exact ⟨rfl, ⟨_, HP.out.rdr⟩, Rdr.below0.trans HP.out.below⟩
set_option maxRecDepth 100000 in
set_option maxHeartbeats 1000000 in
theorem escape_92 (b : Nat) (rest : List UInt8) (v : Value) (text : List UInt8) (w : World) (hl : text.length ≤ 1000000) (h : Rdr w b (92 :: rest) v text) : Calls Tryd.prog 83 #[.pointer (some ⟨b, 0, none⟩)] w (Reads w b rest (text ++ [92]) 0) := by
  obtain ⟨i0, hi, hz0, hz1, hz2⟩ := info_parts info5
  have c0 := h.c0
  have c1 := h.c1
  have f0 := h.f0
  have f1 := h.f1
  have H1 := Lib.hid (h.set0 (r2 := rest))
  have hbw := lt_of_at h.box
  obtain ⟨p1, p2, p3, p4⟩ := bs_cons 92 rest
  generalize bs (92 :: rest) = r at *
  generalize bs rest = r1 at *
  clear h
  go_enter Tryd.func83, Tryd.ntmps83
  go_wp2_with (first
    | (at_builtin; refine wpList_append_lies _ rfl _ _ 101 rfl (b + 1) 5 i0 (.int .u8 0) 1 1 Tryd.underlying101 hi hz0 hz1 hz2 rfl (by decide) v text.length (vals text) rfl (H1.out.buf.alloc _) ⟨w.heap.size, 0, none⟩ 1 1 (vals [92]) rfl rfl (news_set w _ _ _ _ rfl) (vals_one _) (by decide) (by unfold maxLen; omega) (by omega) (by simp; omega) (w.heap.size + 1) (by simp) ?_; intro g cap w2 hown hgrow hat hlt; have HP := Lib.hid (H1.out.push (Buf.more hown rfl) (grown_alloc hgrow)); clear hown hgrow hat hlt; have d1 := HP.out.c1; have d2 := HP.out.f1; have d3 := HP.out.lt))
  go_ret
  exact ⟨rfl, ⟨_, HP.out.rdr⟩, Rdr.below0.trans HP.out.below⟩
end Go.Proofs.YtfhhmajkacjbgaaDoor
