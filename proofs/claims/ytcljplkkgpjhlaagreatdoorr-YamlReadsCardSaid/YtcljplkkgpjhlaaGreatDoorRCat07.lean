/-
  Parts of the proof: Read Read2 Unq1 Read3 Read4.
-/
import Derived.Test.YtcljplkkgpjhlaaGreatDoorRCat06
import Derived.Lib.AppendStr
import Derived.Deep.RegionHeld3
import Derived.Lib.RuneBytes
import Derived.IntWalk
set_option maxRecDepth 100000
set_option maxHeartbeats 8000000
namespace Go.Proofs.YtcljplkkgpjhlaaGreatDoorR
section
open Go.ChangeShapes Go.WideShapes Go.ChangeAt Go.RowKit
attribute [local go_sem ↓] Go.wp_at_zero Go.wp_at_succ
variable {w : World}
def bs (l : List UInt8) : ByteArray := ⟨l.toArray⟩
theorem bs_toList (l : List UInt8) : (bs l).data.toList = l := by simp [bs]
theorem bs_size (l : List UInt8) : (bs l).size = l.length := by simp [bs, ByteArray.size]
theorem bs_drop (n : Nat) (l : List UInt8) : (bs l).extract n (bs l).size = bs (l.drop n) := by
  apply ByteArray.ext
  apply Array.toList_inj.1
  rw [ByteArray.data_extract, Array.toList_extract, bs_toList, bs_size, bs_toList]
  simp [List.take_of_length_le]
structure Cons (r : ByteArray) (c : UInt8) (r1 : ByteArray) : Prop where
  pos : 0 < r.size
  get : r[0] = c
  cut : r.extract 1 r.size = r1
  ne : r.toList.isEmpty = false
theorem bs_cons (c : UInt8) (l : List UInt8) : Cons (bs (c :: l)) c (bs l) :=
  ⟨by rw [bs_size]; simp, rfl, bs_drop 1 (c :: l), by
    rw [Lib.toList_data, bs_toList]; rfl⟩
structure Rdr (w : World) (b : Nat) (rest : List UInt8) (v : Value) (text : List UInt8) : Prop where
  box : w.heap[b]? = some (.cells #[.string (bs rest), v] 153 (0, 0))
  buf : Buf w (b + 1) v text
theorem Rdr.c0 {w : World} {b : Nat} {rest : List UInt8} {v : Value} {text : List UInt8} (h : Rdr w b rest v text) : w.cell? ⟨b, 0, none⟩ = some (.string (bs rest)) := cell_of_at h.box rfl
theorem Rdr.c1 {w : World} {b : Nat} {rest : List UInt8} {v : Value} {text : List UInt8} (h : Rdr w b rest v text) : w.cell? ⟨b, 1, none⟩ = some v := cell_of_at h.box rfl
theorem Rdr.f0 {w : World} {b : Nat} {rest : List UInt8} {v : Value} {text : List UInt8} (h : Rdr w b rest v text) : w.frozen? ⟨b, 0, none⟩ = false := by simp [World.frozen?, h.box]
theorem Rdr.f1 {w : World} {b : Nat} {rest : List UInt8} {v : Value} {text : List UInt8} (h : Rdr w b rest v text) : w.frozen? ⟨b, 1, none⟩ = false := by simp [World.frozen?, h.box]
theorem Rdr.fresh {w w' : World} {b : Nat} {rest : List UInt8} {v : Value} {text : List UInt8} (h : Rdr w b rest v text) (f : Fresh w w') : Rdr w' b rest v text :=
  ⟨by rw [f.block b (lt_of_at h.box)]; exact h.box, h.buf.fresh f⟩
theorem Rdr.set0 {w : World} {b : Nat} {rest r2 : List UInt8} {v : Value} {text : List UInt8} (h : Rdr w b rest v text) : Rdr (w.setCell ⟨b, 0, none⟩ (.string (bs r2))) b r2 v text := by
  refine ⟨by simp [World.setCell, Array.getElem?_modify, h.box], h.buf.kept (grown_set w b 0 _) ?_⟩
  rcases hv : v.ownBlock with _ | g
  · exact .inl rfl
  · refine .inr (fun e => ?_)
    injection e with e
    have := (h.buf.lt g hv).1
    omega
def Reads (w : World) (b : Nat) (rest text : List UInt8) (n : Int) (e : Ending) (w' : World) : Prop := e = .returned (.int .i64 n) ∧ (∃ v, Rdr w' b rest v text) ∧ Below b w w'
theorem grown_alloc {w w' : World} {o : Obj} {row : Option Nat} (h : (w.alloc o).grownBy w' row) : w.grownBy w' row :=
  ⟨h.os, h.tape, h.output, by have := h.size; rw [World.size_alloc] at this; omega, fun k hk hne => (h.block k (by rw [World.size_alloc]; omega) hne).trans (Below.heap_alloc _ _ _ hk)⟩
structure Pushed (w w2 : World) (b : Nat) (rest : List UInt8) (v v2 : Value) (text : List UInt8) : Prop where
  c0 : w2.cell? ⟨b, 0, none⟩ = some (.string (bs rest))
  f0 : w2.frozen? ⟨b, 0, none⟩ = false
  c1 : w2.cell? ⟨b, 1, none⟩ = some v
  f1 : w2.frozen? ⟨b, 1, none⟩ = false
  lt : b < w2.heap.size
  rdr : Rdr (w2.setCell ⟨b, 1, none⟩ v2) b rest v2 text
  below : Below b w (w2.setCell ⟨b, 1, none⟩ v2)
theorem Rdr.push {w w2 : World} {b : Nat} {rest : List UInt8} {v v2 : Value} {text m : List UInt8} (h : Rdr w b rest v text) (hown : Buf w2 (b + 1) v2 (text ++ m)) (hg : w.grownBy w2 v.ownBlock) : Pushed w w2 b rest v v2 (text ++ m) := by
  have hne : some b ≠ v.ownBlock := fun e => by have := (h.buf.lt b e.symm).1; omega
  have hb : w2.heap[b]? = some (.cells #[.string (bs rest), v] 153 (0, 0)) := by rw [hg.block b (lt_of_at h.box) hne]; exact h.box
  refine ⟨cell_of_at hb rfl, by simp [World.frozen?, hb], cell_of_at hb rfl, by simp [World.frozen?, hb], lt_of_at hb, ⟨by simp [World.setCell, Array.getElem?_modify, hb], hown.kept (grown_set w2 b 1 _) ?_⟩, ?_⟩
  · rcases hv : v2.ownBlock with _ | g
    · exact .inl rfl
    · refine .inr (fun e => ?_)
      injection e with e
      have := (hown.lt g hv).1
      omega
  · exact ((Below.refl b w).grown hg (Nat.le_of_lt (lt_of_at h.box)) (fun k e => by have := (h.buf.lt k e).1; omega)).setCell (Nat.le_refl _) _
theorem Rdr.below0 {w : World} {b : Nat} {u : Value} : Below b w (w.setCell ⟨b, 0, none⟩ u) := (Below.refl b w).setCell (Nat.le_refl _) _
theorem news_set (w : World) (a : Addr) (u : Value) (cs : Array Value) (l : List UInt8) (h : cs.toList = vals l) : ∀ j x, (vals l)[j]? = some x → ((w.setCell a u).alloc (.cells cs 5)).cell? ((⟨w.heap.size, 0, none⟩ : Addr).add j) = some x := by
  have := news_at (w.setCell a u) cs l h
  rw [show (w.setCell a u).heap.size = w.heap.size by simp [World.setCell]] at this
  exact this
theorem digit_num (c : UInt8) (w : World) (h0 : 48 ≤ c.toNat) (h1 : c.toNat ≤ 57) : Calls Tryz.prog 169 #[.int .u8 (c.toNat : Int)] w fun e w' => e = .returned (.tuple #[.int .i32 ((c.toNat : Int) - 48), .bool true]) ∧ w = w' := by
  have a0 : (48 : Int) ≤ (c.toNat : Int) := by omega
  have a1 : (c.toNat : Int) ≤ 57 := by omega
  clear h0 h1
  go_enter Tryz.func169, Tryz.ntmps169
  go_wp2
  go_ret2
  exact ⟨rfl, rfl⟩
theorem digit_low (c : UInt8) (w : World) (h0 : 97 ≤ c.toNat) (h1 : c.toNat ≤ 102) : Calls Tryz.prog 169 #[.int .u8 (c.toNat : Int)] w fun e w' => e = .returned (.tuple #[.int .i32 ((c.toNat : Int) - 87), .bool true]) ∧ w = w' := by
  have a0 : (97 : Int) ≤ (c.toNat : Int) := by omega
  have a1 : (c.toNat : Int) ≤ 102 := by omega
  have a2 : ¬ (c.toNat : Int) ≤ 57 := by omega
  have a3 : (48 : Int) ≤ (c.toNat : Int) := by omega
  have HE : Hid ((c.toNat : Int) - 87 = (c.toNat : Int) - 97 + 10) := by rw [Hid]; omega
  clear h0 h1
  go_enter Tryz.func169, Tryz.ntmps169
  go_wp2
  go_ret2
  exact ⟨by rw [HE.out]; rfl, rfl⟩
theorem first_no (x : Int) (w : World) (h0 : 0 ≤ x) (h1 : x < 55296) : Calls Tryz.prog 159 #[.int .i32 x] w fun e w' => e = .returned (.bool false) ∧ w = w' := by
  have a : ¬ 55296 ≤ x := by omega
  go_enter Tryz.func159, Tryz.ntmps159
  go_wp2
  go_ret
  exact ⟨rfl, rfl⟩
theorem second_no (x : Int) (w : World) (h0 : 0 ≤ x) (h1 : x < 55296) : Calls Tryz.prog 161 #[.int .i32 x] w fun e w' => e = .returned (.bool false) ∧ w = w' := by
  have a : ¬ 56320 ≤ x := by omega
  go_enter Tryz.func161, Tryz.ntmps161
  go_wp2
  go_ret
  exact ⟨rfl, rfl⟩
theorem mark_yes (b : Nat) (rest : List UInt8) (v : Value) (text : List UInt8) (w : World) (h : Rdr w b (34 :: rest) v text) : Calls Tryz.prog 100 #[.pointer (some ⟨b, 0, none⟩)] w fun e w' => e = .returned (.bool true) ∧ w = w' := by
  have c0 := h.c0
  obtain ⟨p1, p2, _, p4⟩ := bs_cons 34 rest
  generalize bs (34 :: rest) = r at *
  clear h
  go_enter Tryz.func100, Tryz.ntmps100
  go_wp2
  go_ret
  exact ⟨rfl, rfl⟩
theorem mark_no (b : Nat) (c : UInt8) (rest : List UInt8) (v : Value) (text : List UInt8) (w : World) (hc : c.toNat ≠ 34) (h : Rdr w b (c :: rest) v text) : Calls Tryz.prog 100 #[.pointer (some ⟨b, 0, none⟩)] w fun e w' => e = .returned (.bool false) ∧ w = w' := by
  have c0 := h.c0
  obtain ⟨p1, p2, _, p4⟩ := bs_cons c rest
  generalize bs (c :: rest) = r at *
  have e1 : ((c.toNat : Int) == 34) = false := by rw [beq_eq_false_iff_ne]; omega
  clear h hc
  go_enter Tryz.func100, Tryz.ntmps100
  go_wp2
  go_ret
  exact ⟨rfl, rfl⟩
def isDig (c : UInt8) : Prop := (48 ≤ c.toNat ∧ c.toNat ≤ 57) ∨ (97 ≤ c.toNat ∧ c.toNat ≤ 102)
def dv (c : UInt8) : Int := if c.toNat ≤ 57 then (c.toNat : Int) - 48 else (c.toNat : Int) - 87
theorem dv_bd {c : UInt8} (h : isDig c) : 0 ≤ dv c ∧ dv c ≤ 15 := by
  unfold dv
  unfold isDig at h
  split <;> omega
theorem digit_any (c : UInt8) (w : World) (h : isDig c) : Calls Tryz.prog 169 #[.int .u8 (c.toNat : Int)] w fun e w' => e = .returned (.tuple #[.int .i32 (dv c), .bool true]) ∧ w = w' := by
  rcases h with h | h
  · rw [dv, if_pos h.2]
    exact digit_num c w h.1 h.2
  · rw [dv, if_neg (by omega)]
    exact digit_low c w h.1 h.2
def valD (l : List UInt8) : Int := l.foldl (fun a c => a * 16 + dv c) 0
theorem valD_snoc (l : List UInt8) (c : UInt8) : valD (l ++ [c]) = valD l * 16 + dv c := by simp [valD]
theorem valD_bd (l : List UInt8) (hl : l.length ≤ 3) (hd : ∀ c ∈ l, isDig c) : 0 ≤ valD l ∧ valD l ≤ 4095 := by
  rcases l with _ | ⟨a, _ | ⟨b, _ | ⟨c, _ | ⟨d, l⟩⟩⟩⟩
  · simp [valD]
  · have := dv_bd (hd a (by simp))
    simp [valD]; omega
  · have := dv_bd (hd a (by simp)); have := dv_bd (hd b (by simp))
    simp [valD]; omega
  · have := dv_bd (hd a (by simp)); have := dv_bd (hd b (by simp)); have := dv_bd (hd c (by simp))
    simp [valD]; omega
  · simp at hl
theorem take_four {ds : List UInt8} {k : Nat} (h : k < ds.length) : ds.take (k + 1) = ds.take k ++ [ds[k]] := by
  rw [List.take_succ_eq_append_getElem h]
theorem number_any (b : Nat) (ds rest : List UInt8) (v : Value) (text : List UInt8) (w : World) (h4 : ds.length = 4) (hd : ∀ c ∈ ds, isDig c) (h : Rdr w b (ds ++ rest) v text) :
    Calls Tryz.prog 158 #[.pointer (some ⟨b, 0, none⟩)] w fun e w' => e = .returned (.tuple #[.int .i32 (valD ds), .int .i64 0]) ∧ Rdr w' b rest v text ∧ Below b w w' := by
  have H := Lib.hid h
  have HD := Lib.hid hd
  have H4 := Lib.hid h4
  clear h hd h4
  go_enter Tryz.func158, Tryz.ntmps158
  go_wp2
  go_loopw [4, 7] (fun a4 a7 wr => ∃ (k : Nat) (n : Int), k ≤ 4 ∧ a7 = .int .i64 k ∧ a4 = .int .i32 n ∧ Hid (n = valD (ds.take k)) ∧ Hid (Rdr wr b (ds.drop k ++ rest) v text) ∧ Hid (Below b w wr)) (fun _ a7 _ => 4 - (intOf a7).toNat)
  case atStart => exact ⟨0, 0, by omega, rfl, rfl, rfl, by rw [Hid, List.drop_zero]; exact H.out, Below.refl _ _⟩
  case round =>
    obtain ⟨k, n, hk, rfl, rfl, HN, HR, HB⟩ := hrel
    by_cases hlt : k < 4
    · have hk4 : k < ds.length := by rw [H4.out]; exact hlt
      have HT : Hid (valD (ds.take (k + 1)) = n * 16 + dv ds[k]) := by rw [Hid, take_four hk4, valD_snoc, HN.out]
      have hbd : 0 ≤ n ∧ n ≤ 4095 := by
        rw [HN.out]
        exact valD_bd _ (by rw [List.length_take]; omega) (fun c hc => HD.out c (List.mem_of_mem_take hc))
      obtain ⟨n0, n1⟩ := hbd
      have hc0 := HD.out ds[k] (List.getElem_mem hk4)
      have hR := HR.out
      rw [List.drop_eq_getElem_cons hk4, List.cons_append] at hR
      generalize ds[k] = c at *
      have hdv := dv_bd hc0
      obtain ⟨d0, d1⟩ := hdv
      have HC := Lib.hid hc0
      clear hc0
      have c0 := hR.c0
      have f0 := hR.f0
      have HR1 := Lib.hid (hR.set0 (r2 := ds.drop (k + 1) ++ rest))
      obtain ⟨p1, p2, p3, p4⟩ := bs_cons c (ds.drop (k + 1) ++ rest)
      generalize bs (c :: (ds.drop (k + 1) ++ rest)) = r at *
      generalize bs (ds.drop (k + 1) ++ rest) = r1 at *
      have HDG := Lib.hid (fun W => digit_any c W HC.out)
      generalize dv c = d at *
      clear hR
      go_wp2_with fail
      refine (HDG.out _).mono ?_
      rintro e w' ⟨rfl, rfl⟩
      go_wp2
      go_roundw
      case rel => exact ⟨k + 1, n * 16 + d, by omega, by go_num, rfl, HT.out.symm, HR1.out, HB.out.trans Rdr.below0⟩
      case measure => simp [intOf]; omega
    · obtain rfl : k = 4 := by omega
      have hR := HR.out
      rw [List.drop_eq_nil_of_le (by rw [H4.out]; exact Nat.le_refl _), List.nil_append] at hR
      have HR2 := Lib.hid hR
      have hn := HN.out
      rw [List.take_of_length_le (by rw [H4.out]; exact Nat.le_refl _)] at hn
      have HN2 := Lib.hid hn
      clear hR hn HR HN
      go_wp2
      go_ret2
      exact ⟨by rw [← HN2.out]; rfl, HR2.out, HB.out⟩
theorem escape_98 (b : Nat) (rest : List UInt8) (v : Value) (text : List UInt8) (w : World) (hl : text.length ≤ 1000000) (h : Rdr w b (98 :: rest) v text) : Calls Tryz.prog 127 #[.pointer (some ⟨b, 0, none⟩)] w (Reads w b rest (text ++ [8]) 0) := by
  obtain ⟨i0, hi, hz0, hz1, hz2⟩ := info_parts info5
  have c0 := h.c0
  have c1 := h.c1
  have f0 := h.f0
  have f1 := h.f1
  have H1 := Lib.hid (h.set0 (r2 := rest))
  have hx := Lib.hid (show Lib.indexByte (⟨#[98, 102, 110, 114, 116]⟩ : ByteArray).data.toList (98 : Int).toNat.toUInt8 = 0 by decide)
  have hbw := lt_of_at h.box
  obtain ⟨p1, p2, p3, p4⟩ := bs_cons 98 rest
  generalize bs (98 :: rest) = r at *
  generalize bs rest = r1 at *
  clear h
  go_enter Tryz.func127, Tryz.ntmps127
  go_wp2_with (first
    | (go_at_call 65; refine (idx_any _ _ _ _ hx.out).mono ?_; rintro e w' ⟨rfl, rfl⟩)
    | (at_builtin; refine wpList_append_lies _ rfl _ _ 145 rfl (b + 1) 5 i0 (.int .u8 0) 1 1 Tryz.underlying145 hi hz0 hz1 hz2 rfl (by decide) v text.length (vals text) rfl (H1.out.buf.alloc _) ⟨w.heap.size, 0, none⟩ 1 1 (vals [8]) rfl rfl (news_set w _ _ _ _ rfl) (vals_one _) (by decide) (by unfold maxLen; omega) (by omega) (by simp; omega) (w.heap.size + 1) (by simp) ?_; intro g cap w2 hown hgrow hat hlt; have HP := Lib.hid (H1.out.push (Buf.more hown rfl) (grown_alloc hgrow)); clear hown hgrow hat hlt; have d1 := HP.out.c1; have d2 := HP.out.f1; have d3 := HP.out.lt))
  go_ret
  exact ⟨rfl, ⟨_, HP.out.rdr⟩, Rdr.below0.trans HP.out.below⟩
theorem escape_102 (b : Nat) (rest : List UInt8) (v : Value) (text : List UInt8) (w : World) (hl : text.length ≤ 1000000) (h : Rdr w b (102 :: rest) v text) : Calls Tryz.prog 127 #[.pointer (some ⟨b, 0, none⟩)] w (Reads w b rest (text ++ [12]) 0) := by
  obtain ⟨i0, hi, hz0, hz1, hz2⟩ := info_parts info5
  have c0 := h.c0
  have c1 := h.c1
  have f0 := h.f0
  have f1 := h.f1
  have H1 := Lib.hid (h.set0 (r2 := rest))
  have hx := Lib.hid (show Lib.indexByte (⟨#[98, 102, 110, 114, 116]⟩ : ByteArray).data.toList (102 : Int).toNat.toUInt8 = 1 by decide)
  have hbw := lt_of_at h.box
  obtain ⟨p1, p2, p3, p4⟩ := bs_cons 102 rest
  generalize bs (102 :: rest) = r at *
  generalize bs rest = r1 at *
  clear h
  go_enter Tryz.func127, Tryz.ntmps127
  go_wp2_with (first
    | (go_at_call 65; refine (idx_any _ _ _ _ hx.out).mono ?_; rintro e w' ⟨rfl, rfl⟩)
    | (at_builtin; refine wpList_append_lies _ rfl _ _ 145 rfl (b + 1) 5 i0 (.int .u8 0) 1 1 Tryz.underlying145 hi hz0 hz1 hz2 rfl (by decide) v text.length (vals text) rfl (H1.out.buf.alloc _) ⟨w.heap.size, 0, none⟩ 1 1 (vals [12]) rfl rfl (news_set w _ _ _ _ rfl) (vals_one _) (by decide) (by unfold maxLen; omega) (by omega) (by simp; omega) (w.heap.size + 1) (by simp) ?_; intro g cap w2 hown hgrow hat hlt; have HP := Lib.hid (H1.out.push (Buf.more hown rfl) (grown_alloc hgrow)); clear hown hgrow hat hlt; have d1 := HP.out.c1; have d2 := HP.out.f1; have d3 := HP.out.lt))
  go_ret
  exact ⟨rfl, ⟨_, HP.out.rdr⟩, Rdr.below0.trans HP.out.below⟩
theorem escape_110 (b : Nat) (rest : List UInt8) (v : Value) (text : List UInt8) (w : World) (hl : text.length ≤ 1000000) (h : Rdr w b (110 :: rest) v text) : Calls Tryz.prog 127 #[.pointer (some ⟨b, 0, none⟩)] w (Reads w b rest (text ++ [10]) 0) := by
  obtain ⟨i0, hi, hz0, hz1, hz2⟩ := info_parts info5
  have c0 := h.c0
  have c1 := h.c1
  have f0 := h.f0
  have f1 := h.f1
  have H1 := Lib.hid (h.set0 (r2 := rest))
  have hx := Lib.hid (show Lib.indexByte (⟨#[98, 102, 110, 114, 116]⟩ : ByteArray).data.toList (110 : Int).toNat.toUInt8 = 2 by decide)
  have hbw := lt_of_at h.box
  obtain ⟨p1, p2, p3, p4⟩ := bs_cons 110 rest
  generalize bs (110 :: rest) = r at *
  generalize bs rest = r1 at *
  clear h
  go_enter Tryz.func127, Tryz.ntmps127
  go_wp2_with (first
    | (go_at_call 65; refine (idx_any _ _ _ _ hx.out).mono ?_; rintro e w' ⟨rfl, rfl⟩)
    | (at_builtin; refine wpList_append_lies _ rfl _ _ 145 rfl (b + 1) 5 i0 (.int .u8 0) 1 1 Tryz.underlying145 hi hz0 hz1 hz2 rfl (by decide) v text.length (vals text) rfl (H1.out.buf.alloc _) ⟨w.heap.size, 0, none⟩ 1 1 (vals [10]) rfl rfl (news_set w _ _ _ _ rfl) (vals_one _) (by decide) (by unfold maxLen; omega) (by omega) (by simp; omega) (w.heap.size + 1) (by simp) ?_; intro g cap w2 hown hgrow hat hlt; have HP := Lib.hid (H1.out.push (Buf.more hown rfl) (grown_alloc hgrow)); clear hown hgrow hat hlt; have d1 := HP.out.c1; have d2 := HP.out.f1; have d3 := HP.out.lt))
  go_ret
  exact ⟨rfl, ⟨_, HP.out.rdr⟩, Rdr.below0.trans HP.out.below⟩
theorem escape_114 (b : Nat) (rest : List UInt8) (v : Value) (text : List UInt8) (w : World) (hl : text.length ≤ 1000000) (h : Rdr w b (114 :: rest) v text) : Calls Tryz.prog 127 #[.pointer (some ⟨b, 0, none⟩)] w (Reads w b rest (text ++ [13]) 0) := by
  obtain ⟨i0, hi, hz0, hz1, hz2⟩ := info_parts info5
  have c0 := h.c0
  have c1 := h.c1
  have f0 := h.f0
  have f1 := h.f1
  have H1 := Lib.hid (h.set0 (r2 := rest))
  have hx := Lib.hid (show Lib.indexByte (⟨#[98, 102, 110, 114, 116]⟩ : ByteArray).data.toList (114 : Int).toNat.toUInt8 = 3 by decide)
  have hbw := lt_of_at h.box
  obtain ⟨p1, p2, p3, p4⟩ := bs_cons 114 rest
  generalize bs (114 :: rest) = r at *
  generalize bs rest = r1 at *
  clear h
  go_enter Tryz.func127, Tryz.ntmps127
  go_wp2_with (first
    | (go_at_call 65; refine (idx_any _ _ _ _ hx.out).mono ?_; rintro e w' ⟨rfl, rfl⟩)
    | (at_builtin; refine wpList_append_lies _ rfl _ _ 145 rfl (b + 1) 5 i0 (.int .u8 0) 1 1 Tryz.underlying145 hi hz0 hz1 hz2 rfl (by decide) v text.length (vals text) rfl (H1.out.buf.alloc _) ⟨w.heap.size, 0, none⟩ 1 1 (vals [13]) rfl rfl (news_set w _ _ _ _ rfl) (vals_one _) (by decide) (by unfold maxLen; omega) (by omega) (by simp; omega) (w.heap.size + 1) (by simp) ?_; intro g cap w2 hown hgrow hat hlt; have HP := Lib.hid (H1.out.push (Buf.more hown rfl) (grown_alloc hgrow)); clear hown hgrow hat hlt; have d1 := HP.out.c1; have d2 := HP.out.f1; have d3 := HP.out.lt))
  go_ret
  exact ⟨rfl, ⟨_, HP.out.rdr⟩, Rdr.below0.trans HP.out.below⟩
theorem escape_116 (b : Nat) (rest : List UInt8) (v : Value) (text : List UInt8) (w : World) (hl : text.length ≤ 1000000) (h : Rdr w b (116 :: rest) v text) : Calls Tryz.prog 127 #[.pointer (some ⟨b, 0, none⟩)] w (Reads w b rest (text ++ [9]) 0) := by
  obtain ⟨i0, hi, hz0, hz1, hz2⟩ := info_parts info5
  have c0 := h.c0
  have c1 := h.c1
  have f0 := h.f0
  have f1 := h.f1
  have H1 := Lib.hid (h.set0 (r2 := rest))
  have hx := Lib.hid (show Lib.indexByte (⟨#[98, 102, 110, 114, 116]⟩ : ByteArray).data.toList (116 : Int).toNat.toUInt8 = 4 by decide)
  have hbw := lt_of_at h.box
  obtain ⟨p1, p2, p3, p4⟩ := bs_cons 116 rest
  generalize bs (116 :: rest) = r at *
  generalize bs rest = r1 at *
  clear h
  go_enter Tryz.func127, Tryz.ntmps127
  go_wp2_with (first
    | (go_at_call 65; refine (idx_any _ _ _ _ hx.out).mono ?_; rintro e w' ⟨rfl, rfl⟩)
    | (at_builtin; refine wpList_append_lies _ rfl _ _ 145 rfl (b + 1) 5 i0 (.int .u8 0) 1 1 Tryz.underlying145 hi hz0 hz1 hz2 rfl (by decide) v text.length (vals text) rfl (H1.out.buf.alloc _) ⟨w.heap.size, 0, none⟩ 1 1 (vals [9]) rfl rfl (news_set w _ _ _ _ rfl) (vals_one _) (by decide) (by unfold maxLen; omega) (by omega) (by simp; omega) (w.heap.size + 1) (by simp) ?_; intro g cap w2 hown hgrow hat hlt; have HP := Lib.hid (H1.out.push (Buf.more hown rfl) (grown_alloc hgrow)); clear hown hgrow hat hlt; have d1 := HP.out.c1; have d2 := HP.out.f1; have d3 := HP.out.lt))
  go_ret
  exact ⟨rfl, ⟨_, HP.out.rdr⟩, Rdr.below0.trans HP.out.below⟩
theorem escape_34 (b : Nat) (rest : List UInt8) (v : Value) (text : List UInt8) (w : World) (hl : text.length ≤ 1000000) (h : Rdr w b (34 :: rest) v text) : Calls Tryz.prog 127 #[.pointer (some ⟨b, 0, none⟩)] w (Reads w b rest (text ++ [34]) 0) := by
  obtain ⟨i0, hi, hz0, hz1, hz2⟩ := info_parts info5
  have c0 := h.c0
  have c1 := h.c1
  have f0 := h.f0
  have f1 := h.f1
  have H1 := Lib.hid (h.set0 (r2 := rest))
  have hbw := lt_of_at h.box
  obtain ⟨p1, p2, p3, p4⟩ := bs_cons 34 rest
  generalize bs (34 :: rest) = r at *
  generalize bs rest = r1 at *
  clear h
  go_enter Tryz.func127, Tryz.ntmps127
  go_wp2_with (first
    | (at_builtin; refine wpList_append_lies _ rfl _ _ 145 rfl (b + 1) 5 i0 (.int .u8 0) 1 1 Tryz.underlying145 hi hz0 hz1 hz2 rfl (by decide) v text.length (vals text) rfl (H1.out.buf.alloc _) ⟨w.heap.size, 0, none⟩ 1 1 (vals [34]) rfl rfl (news_set w _ _ _ _ rfl) (vals_one _) (by decide) (by unfold maxLen; omega) (by omega) (by simp; omega) (w.heap.size + 1) (by simp) ?_; intro g cap w2 hown hgrow hat hlt; have HP := Lib.hid (H1.out.push (Buf.more hown rfl) (grown_alloc hgrow)); clear hown hgrow hat hlt; have d1 := HP.out.c1; have d2 := HP.out.f1; have d3 := HP.out.lt))
  go_ret
  exact ⟨rfl, ⟨_, HP.out.rdr⟩, Rdr.below0.trans HP.out.below⟩
theorem escape_92 (b : Nat) (rest : List UInt8) (v : Value) (text : List UInt8) (w : World) (hl : text.length ≤ 1000000) (h : Rdr w b (92 :: rest) v text) : Calls Tryz.prog 127 #[.pointer (some ⟨b, 0, none⟩)] w (Reads w b rest (text ++ [92]) 0) := by
  obtain ⟨i0, hi, hz0, hz1, hz2⟩ := info_parts info5
  have c0 := h.c0
  have c1 := h.c1
  have f0 := h.f0
  have f1 := h.f1
  have H1 := Lib.hid (h.set0 (r2 := rest))
  have hbw := lt_of_at h.box
  obtain ⟨p1, p2, p3, p4⟩ := bs_cons 92 rest
  generalize bs (92 :: rest) = r at *
  generalize bs rest = r1 at *
  clear h
  go_enter Tryz.func127, Tryz.ntmps127
  go_wp2_with (first
    | (at_builtin; refine wpList_append_lies _ rfl _ _ 145 rfl (b + 1) 5 i0 (.int .u8 0) 1 1 Tryz.underlying145 hi hz0 hz1 hz2 rfl (by decide) v text.length (vals text) rfl (H1.out.buf.alloc _) ⟨w.heap.size, 0, none⟩ 1 1 (vals [92]) rfl rfl (news_set w _ _ _ _ rfl) (vals_one _) (by decide) (by unfold maxLen; omega) (by omega) (by simp; omega) (w.heap.size + 1) (by simp) ?_; intro g cap w2 hown hgrow hat hlt; have HP := Lib.hid (H1.out.push (Buf.more hown rfl) (grown_alloc hgrow)); clear hown hgrow hat hlt; have d1 := HP.out.c1; have d2 := HP.out.f1; have d3 := HP.out.lt))
  go_ret
  exact ⟨rfl, ⟨_, HP.out.rdr⟩, Rdr.below0.trans HP.out.below⟩
theorem rune_any (B : Nat) (v : Value) (l m : List UInt8) (r : Int) (w : World) (h0 : 0 ≤ r) (h1 : r ≤ 2147483647) (hl : l.length ≤ 1000000) (hB : B ≤ w.heap.size) (hb : Buf w B v l) (hm : Lib.runeCells r = vals m) (hm0 : 0 < m.length) :
    Calls Tryz.prog 162 #[v, .int .i32 r] w fun e w' => ∃ g n c : Nat, e = .returned (.slice (some ⟨g, 0, none⟩) n c) ∧ Buf w' B (.slice (some ⟨g, 0, none⟩) n c) (l ++ m) ∧ w.grownBy w' v.ownBlock := by
  refine (Any.utf8_AppendRune_plain Tryz.laysRune info5 B v l.length (vals l) r (by omega) h1 w hb (by omega) hB).mono ?_
  rintro e w' ⟨v', he, hown, o, hg⟩
  rw [hm, vals_length] at hown
  obtain ⟨g, cap, rfl, _⟩ := World.ownsRow.form hown (by omega)
  exact ⟨g, _, cap, he, Buf.more hown rfl, grown_alloc hg⟩
theorem byNumber_any (b : Nat) (ds rest : List UInt8) (v : Value) (text m : List UInt8) (w : World) (h4 : ds.length = 4) (hd : ∀ c ∈ ds, isDig c) (h0 : 0 ≤ valD ds) (h1 : valD ds < 55296) (hm : Lib.runeCells (valD ds) = vals m) (hm0 : 0 < m.length) (hl : text.length ≤ 1000000) (h : Rdr w b (ds ++ rest) v text) :
    Calls Tryz.prog 145 #[.pointer (some ⟨b, 0, none⟩)] w (Reads w b rest (text ++ m) 0) := by
  have HN := Lib.hid (number_any b ds rest v text w h4 hd h)
  have HM := Lib.hid hm
  generalize valD ds = n at *
  have h2 : n ≤ 2147483647 := by omega
  clear h h4 hd hm
  go_enter Tryz.func145, Tryz.ntmps145
  go_wp2_with fail
  refine HN.out.mono ?_
  rintro e w1 ⟨rfl, hr, hb1⟩
  have HR := Lib.hid hr
  have HB1 := Lib.hid hb1
  have c1 := hr.c1
  have hlt := lt_of_at hr.box
  clear hr hb1
  go_wp2_with fail
  refine (first_no n _ h0 h1).mono ?_
  rintro e w' ⟨rfl, rfl⟩
  go_wp2_with fail
  refine (second_no n _ h0 h1).mono ?_
  rintro e w' ⟨rfl, rfl⟩
  go_wp2_with fail
  refine (rune_any (b + 1) v text m n _ h0 h2 hl (by omega) HR.out.buf HM.out hm0).mono ?_
  rintro e w2 ⟨g2, n2, k2, rfl, hb2, hg2⟩
  have HP := Lib.hid (HR.out.push hb2 hg2)
  clear hb2 hg2
  have d1 := HP.out.c1
  have d2 := HP.out.f1
  have d3 := HP.out.lt
  go_wp2
  go_ret
  exact ⟨rfl, ⟨_, HP.out.rdr⟩, HB1.out.trans HP.out.below⟩
theorem escape_u (b : Nat) (rest r2 : List UInt8) (v : Value) (text t2 : List UInt8) (w : World) (h : Rdr w b (117 :: rest) v text)
    (hn : ∀ W, Rdr W b rest v text → Calls Tryz.prog 145 #[.pointer (some ⟨b, 0, none⟩)] W (Reads W b r2 t2 0)) :
    Calls Tryz.prog 127 #[.pointer (some ⟨b, 0, none⟩)] w (Reads w b r2 t2 0) := by
  have c0 := h.c0
  have f0 := h.f0
  have hbw := lt_of_at h.box
  have HN := Lib.hid (hn _ (h.set0 (r2 := rest)))
  obtain ⟨p1, p2, p3, p4⟩ := bs_cons 117 rest
  generalize bs (117 :: rest) = r at *
  generalize bs rest = r1 at *
  clear h hn
  go_enter Tryz.func127, Tryz.ntmps127
  go_wp2_with fail
  refine HN.out.mono ?_
  rintro e w2 ⟨rfl, hr2, hb2⟩
  go_wp2
  go_ret
  exact ⟨rfl, hr2, Rdr.below0.trans hb2⟩
theorem char_esc (b : Nat) (rest r2 : List UInt8) (v : Value) (text t2 : List UInt8) (w : World) (h : Rdr w b (92 :: rest) v text)
    (hn : ∀ W, Rdr W b rest v text → Calls Tryz.prog 127 #[.pointer (some ⟨b, 0, none⟩)] W (Reads W b r2 t2 0)) :
    Calls Tryz.prog 101 #[.pointer (some ⟨b, 0, none⟩)] w (Reads w b r2 t2 0) := by
  have c0 := h.c0
  have f0 := h.f0
  have hbw := lt_of_at h.box
  have HN := Lib.hid (hn _ (h.set0 (r2 := rest)))
  obtain ⟨p1, p2, p3, p4⟩ := bs_cons 92 rest
  generalize bs (92 :: rest) = r at *
  generalize bs rest = r1 at *
  clear h hn
  go_enter Tryz.func101, Tryz.ntmps101
  go_wp2_with fail
  refine HN.out.mono ?_
  rintro e w2 ⟨rfl, hr2, hb2⟩
  go_wp2
  go_ret
  exact ⟨rfl, hr2, Rdr.below0.trans hb2⟩
def Tabs (w : World) : Prop := Lib.Utf8Tabs (Tryz.laysValid_ren.g 3) (Tryz.laysValid_ren.g 4) w
theorem valid_any (s : ByteArray) (w : World) (hs : s.size ≤ 1000000) (hT : Tabs w) : Calls Tryz.prog 104 #[.string s] w fun e w' => e = .returned (.bool (Lib.validD s.data.toList)) ∧ Fresh w w' :=
  Any.utf8_ValidString Tryz.laysValid s w (by omega) hT
theorem isValid_any (s : ByteArray) (w : World) (hs : s.size ≤ 1000000) (hT : Tabs w) : Calls Tryz.prog 78 #[.string s] w fun e w' => e = .returned (.bool (Lib.validD s.data.toList)) ∧ Fresh w w' := by
  have HV := Lib.hid (valid_any s w hs hT)
  generalize Lib.validD s.data.toList = x at *
  clear hT
  go_enter Tryz.func78, Tryz.ntmps78
  go_wp2_with fail
  refine HV.out.mono ?_
  rintro e w1 ⟨rfl, hf⟩
  go_wp2
  go_ret
  exact ⟨rfl, hf⟩
theorem decode_any (s : ByteArray) (w : World) (hT : Tabs w) : Calls Tryz.prog 128 #[.string s] w fun e w' => e = .returned (.tuple #[.int .i32 (Lib.decodeGo s).1, .int .i64 (Lib.decodeGo s).2]) ∧ Fresh w w' :=
  Any.utf8_DecodeRuneInString Tryz.laysDecode s w hT
def hexv (c : UInt8) : Int := if 48 ≤ c.toNat ∧ c.toNat ≤ 57 then (c.toNat : Int) - 48 else if 97 ≤ c.toNat ∧ c.toNat ≤ 102 then (c.toNat : Int) - 87 else if 65 ≤ c.toNat ∧ c.toNat ≤ 70 then (c.toNat : Int) - 55 else -1
theorem hexv_bd (c : UInt8) : -1 ≤ hexv c ∧ hexv c ≤ 15 := by
  unfold hexv
  repeat' split
  all_goals omega
theorem digit_yes (c : UInt8) (w : World) (h : 0 ≤ hexv c) : Calls Tryz.prog 169 #[.int .u8 (c.toNat : Int)] w fun e w' => e = .returned (.tuple #[.int .i32 (hexv c), .bool true]) ∧ w = w' := by
  by_cases h1 : 48 ≤ c.toNat ∧ c.toNat ≤ 57
  · rw [hexv, if_pos h1]
    exact digit_num c w h1.1 h1.2
  by_cases h2 : 97 ≤ c.toNat ∧ c.toNat ≤ 102
  · rw [hexv, if_neg h1, if_pos h2]
    exact digit_low c w h2.1 h2.2
  by_cases h3 : 65 ≤ c.toNat ∧ c.toNat ≤ 70
  · rw [hexv, if_neg h1, if_neg h2, if_pos h3]
    have a0 : (65 : Int) ≤ (c.toNat : Int) := by omega
    have a1 : (c.toNat : Int) ≤ 70 := by omega
    have a2 : ¬ (c.toNat : Int) ≤ 57 := by omega
    have a3 : (48 : Int) ≤ (c.toNat : Int) := by omega
    have a4 : ¬ (97 : Int) ≤ (c.toNat : Int) := by omega
    have HE : Hid ((c.toNat : Int) - 55 = (c.toNat : Int) - 65 + 10) := by rw [Hid]; omega
    clear h h1 h2 h3
    go_enter Tryz.func169, Tryz.ntmps169
    go_wp2
    go_ret2
    exact ⟨by rw [HE.out]; rfl, rfl⟩
  · rw [hexv, if_neg h1, if_neg h2, if_neg h3] at h
    omega
theorem digit_no (c : UInt8) (w : World) (h : hexv c < 0) : Calls Tryz.prog 169 #[.int .u8 (c.toNat : Int)] w fun e w' => e = .returned (.tuple #[.int .i32 0, .bool false]) ∧ w = w' := by
  have hc : c.toNat < 48 ∨ (58 ≤ c.toNat ∧ c.toNat < 65) ∨ (71 ≤ c.toNat ∧ c.toNat < 97) ∨ 103 ≤ c.toNat := by
    unfold hexv at h
    repeat' split at h
    all_goals omega
  clear h
  rcases hc with h | h | h | h
  · have a0 : ¬ (48 : Int) ≤ (c.toNat : Int) := by omega
    have a1 : ¬ (97 : Int) ≤ (c.toNat : Int) := by omega
    have a2 : ¬ (65 : Int) ≤ (c.toNat : Int) := by omega
    clear h
    go_enter Tryz.func169, Tryz.ntmps169
    go_wp2
    go_ret2
    exact ⟨rfl, rfl⟩
  · have a0 : (48 : Int) ≤ (c.toNat : Int) := by omega
    have a3 : ¬ (c.toNat : Int) ≤ 57 := by omega
    have a1 : ¬ (97 : Int) ≤ (c.toNat : Int) := by omega
    have a2 : ¬ (65 : Int) ≤ (c.toNat : Int) := by omega
    clear h
    go_enter Tryz.func169, Tryz.ntmps169
    go_wp2
    go_ret2
    exact ⟨rfl, rfl⟩
  · have a0 : (48 : Int) ≤ (c.toNat : Int) := by omega
    have a3 : ¬ (c.toNat : Int) ≤ 57 := by omega
    have a1 : ¬ (97 : Int) ≤ (c.toNat : Int) := by omega
    have a2 : (65 : Int) ≤ (c.toNat : Int) := by omega
    have a4 : ¬ (c.toNat : Int) ≤ 70 := by omega
    clear h
    go_enter Tryz.func169, Tryz.ntmps169
    go_wp2
    go_ret2
    exact ⟨rfl, rfl⟩
  · have a0 : (48 : Int) ≤ (c.toNat : Int) := by omega
    have a3 : ¬ (c.toNat : Int) ≤ 57 := by omega
    have a1 : (97 : Int) ≤ (c.toNat : Int) := by omega
    have a5 : ¬ (c.toNat : Int) ≤ 102 := by omega
    have a2 : (65 : Int) ≤ (c.toNat : Int) := by omega
    have a4 : ¬ (c.toNat : Int) ≤ 70 := by omega
    clear h
    go_enter Tryz.func169, Tryz.ntmps169
    go_wp2
    go_ret2
    exact ⟨rfl, rfl⟩
def numF : Nat → Int → List UInt8 → Int × Int × List UInt8
  | 0, n, l => (0, n, l)
  | _ + 1, _, [] => (11, 0, [])
  | k + 1, n, c :: l => if hexv c < 0 then (6, 0, []) else numF k (n * 16 + hexv c) l
theorem numF_err : ∀ (k : Nat) (n : Int) (l : List UInt8), (numF k n l).1 ≠ 0 → (numF k n l).2.1 = 0
  | 0, n, l, h => by simp [numF] at h
  | k + 1, n, [], _ => rfl
  | k + 1, n, c :: l, h => by
    rw [numF] at h ⊢
    by_cases hc : hexv c < 0
    · rw [if_pos hc]
    · rw [if_neg hc] at h ⊢
      exact numF_err k _ l h
theorem numF_bd : ∀ (k : Nat) (n : Int) (l : List UInt8), 0 ≤ n → 0 ≤ (numF k n l).2.1 ∧ (numF k n l).2.1 < (n + 1) * 16 ^ k
  | 0, n, l, h => by simp [numF]; omega
  | k + 1, n, [], h => by
    have h1 : (0 : Int) < 16 ^ (k + 1) := Int.pow_pos (by decide)
    have h2 : 0 < (n + 1) * (16 : Int) ^ (k + 1) := Int.mul_pos (by omega) h1
    exact ⟨Int.le_refl _, h2⟩
  | k + 1, n, c :: l, h => by
    have hb := hexv_bd c
    rw [numF]
    by_cases hc : hexv c < 0
    · rw [if_pos hc]
      have h1 : (0 : Int) < 16 ^ (k + 1) := Int.pow_pos (by decide)
      exact ⟨Int.le_refl _, Int.mul_pos (by omega) h1⟩
    · rw [if_neg hc]
      have ih := numF_bd k (n * 16 + hexv c) l (by omega)
      refine ⟨ih.1, Int.lt_of_lt_of_le ih.2 ?_⟩
      have h1 : (0 : Int) ≤ 16 ^ k := Int.le_of_lt (Int.pow_pos (by decide))
      have h2 : (n * 16 + hexv c + 1) * (16 : Int) ^ k ≤ ((n + 1) * 16) * 16 ^ k := Int.mul_le_mul_of_nonneg_right (by omega) h1
      rw [Int.pow_succ, Int.mul_comm ((16 : Int) ^ k) 16, ← Int.mul_assoc]
      exact h2
theorem numF_four (l : List UInt8) : 0 ≤ (numF 4 0 l).2.1 ∧ (numF 4 0 l).2.1 ≤ 65535 := by
  have := numF_bd 4 0 l (Int.le_refl _)
  simp at this
  omega
theorem pow16 (k : Nat) (h : k < 4) : (16 : Int) ^ k ≤ 4096 := by
  have : k = 0 ∨ k = 1 ∨ k = 2 ∨ k = 3 := by omega
  rcases this with rfl | rfl | rfl | rfl <;> decide
theorem number_all (b : Nat) (l : List UInt8) (v : Value) (text : List UInt8) (w : World) (h : Rdr w b l v text) :
    Calls Tryz.prog 158 #[.pointer (some ⟨b, 0, none⟩)] w fun e w' => e = .returned (.tuple #[.int .i32 (numF 4 0 l).2.1, .int .i64 (numF 4 0 l).1]) ∧ ((numF 4 0 l).1 = 0 → Rdr w' b (numF 4 0 l).2.2 v text) ∧ Below b w w' := by
  have H := Lib.hid h
  clear h
  generalize hF : numF 4 0 l = F
  have HF := Lib.hid hF
  clear hF
  go_enter Tryz.func158, Tryz.ntmps158
  go_wp2
  go_loopw [4, 7] (fun a4 a7 wr => ∃ (k : Nat) (n : Int) (l2 : List UInt8), k ≤ 4 ∧ a7 = .int .i64 k ∧ a4 = .int .i32 n ∧ 0 ≤ n ∧ Hid (n < 16 ^ k) ∧ Hid (F = numF (4 - k) n l2) ∧ Hid (Rdr wr b l2 v text) ∧ Hid (Below b w wr)) (fun _ a7 _ => 4 - (intOf a7).toNat)
  case atStart => exact ⟨0, 0, l, by omega, rfl, rfl, by omega, by rw [Hid]; decide, HF.out.symm, H.out, Below.refl _ _⟩
  case round =>
    obtain ⟨k, n, l2, hk, rfl, rfl, hn0, HN, HE, HR, HB⟩ := hrel
    by_cases hlt : k < 4
    · have h4 : 4 - k = (4 - (k + 1)) + 1 := by omega
      have hp := pow16 k hlt
      have hn1 : n ≤ 4095 := by have := HN.out; omega
      clear hp
      rcases l2 with _ | ⟨c, l3⟩
      · have HX : Hid (F = (11, 0, [])) := by rw [Hid, HE.out, h4, numF]
        have c0 := HR.out.c0
        have e0 : bs [] = ⟨#[]⟩ := rfl
        rw [e0] at c0
        clear e0 h4
        go_wp2
        go_ret2
        rw [HX.out]
        exact ⟨rfl, (fun e => by simp at e), HB.out⟩
      · have hR := HR.out
        have c0 := hR.c0
        have f0 := hR.f0
        have HR1 := Lib.hid (hR.set0 (r2 := l3))
        obtain ⟨p1, p2, p3, p4⟩ := bs_cons c l3
        have hb := hexv_bd c
        by_cases hc : hexv c < 0
        · have HX : Hid (F = (6, 0, [])) := by rw [Hid, HE.out, h4, numF, if_pos hc]
          have HDG := Lib.hid (fun W => digit_no c W hc)
          generalize bs (c :: l3) = r at *
          clear h4 hR hb hc
          go_wp2_with fail
          refine (HDG.out _).mono ?_
          rintro e w' ⟨rfl, rfl⟩
          go_wp2
          go_ret2
          rw [HX.out]
          exact ⟨rfl, (fun e => by simp at e), HB.out⟩
        · have HX : Hid (F = numF (4 - (k + 1)) (n * 16 + hexv c) l3) := by rw [Hid, HE.out, h4, numF, if_neg hc]
          have HDG := Lib.hid (fun W => digit_yes c W (by omega))
          have HN2 : Hid (n * 16 + hexv c < 16 ^ (k + 1)) := by
            have := HN.out
            rw [Hid, Int.pow_succ]
            generalize (16 : Int) ^ k = t at *
            omega
          obtain ⟨_, d1⟩ := hb
          have d0 : 0 ≤ hexv c := by omega
          generalize hexv c = d at *
          generalize bs (c :: l3) = r at *
          generalize bs l3 = r1 at *
          clear h4 hR hc
          go_wp2_with fail
          refine (HDG.out _).mono ?_
          rintro e w' ⟨rfl, rfl⟩
          go_wp2
          go_roundw
          case rel => exact ⟨k + 1, n * 16 + d, l3, by omega, by go_num, rfl, by omega, HN2.out, HX.out, HR1.out, HB.out.trans Rdr.below0⟩
          case measure => simp [intOf]; omega
    · obtain rfl : k = 4 := by omega
      have HX : Hid (F = (0, n, l2)) := by rw [Hid, HE.out]; rfl
      clear HE HN
      go_wp2
      go_ret2
      rw [HX.out]
      exact ⟨rfl, fun _ => HR.out, HB.out⟩
def firstB (n : Int) : Bool := decide (55296 ≤ n ∧ n < 56320)
def secondB (n : Int) : Bool := decide (56320 ≤ n ∧ n < 57344)
theorem first_all (n : Int) (w : World) (h0 : 0 ≤ n) (h1 : n ≤ 2000000) : Calls Tryz.prog 159 #[.int .i32 n] w fun e w' => e = .returned (.bool (firstB n)) ∧ w = w' := by
  by_cases a : 55296 ≤ n
  · by_cases b : n < 56320
    · have H : Hid (firstB n = true) := decide_eq_true ⟨a, b⟩
      go_enter Tryz.func159, Tryz.ntmps159
      go_wp2
      go_ret
      exact ⟨by rw [H.out]; rfl, rfl⟩
    · have H : Hid (firstB n = false) := decide_eq_false (by omega)
      go_enter Tryz.func159, Tryz.ntmps159
      go_wp2
      go_ret
      exact ⟨by rw [H.out]; rfl, rfl⟩
  · have H : Hid (firstB n = false) := decide_eq_false (by omega)
    go_enter Tryz.func159, Tryz.ntmps159
    go_wp2
    go_ret
    exact ⟨by rw [H.out]; rfl, rfl⟩
theorem second_all (n : Int) (w : World) (h0 : 0 ≤ n) (h1 : n ≤ 2000000) : Calls Tryz.prog 161 #[.int .i32 n] w fun e w' => e = .returned (.bool (secondB n)) ∧ w = w' := by
  by_cases a : 56320 ≤ n
  · by_cases b : n < 57344
    · have H : Hid (secondB n = true) := decide_eq_true ⟨a, b⟩
      go_enter Tryz.func161, Tryz.ntmps161
      go_wp2
      go_ret
      exact ⟨by rw [H.out]; rfl, rfl⟩
    · have H : Hid (secondB n = false) := decide_eq_false (by omega)
      go_enter Tryz.func161, Tryz.ntmps161
      go_wp2
      go_ret
      exact ⟨by rw [H.out]; rfl, rfl⟩
  · have H : Hid (secondB n = false) := decide_eq_false (by omega)
    go_enter Tryz.func161, Tryz.ntmps161
    go_wp2
    go_ret
    exact ⟨by rw [H.out]; rfl, rfl⟩
theorem has_any (s p : ByteArray) (w : World) : Calls Tryz.prog 110 #[.string s, .string p] w fun e w' => e = .returned (.bool (p.data.toList.isPrefixOf s.data.toList)) ∧ w = w' := by
  refine (Any.strings_HasPrefix Tryz.laysHas s p w).mono ?_
  rintro e w' ⟨h1, h2⟩
  exact ⟨h1, h2.symm⟩
def otherF (f : Int) (l : List UInt8) : Int × Int × List UInt8 :=
  if l.isPrefixOf [92, 117] = true then (11, 0, []) else if ([92, 117] : List UInt8).isPrefixOf l = false then (10, 0, []) else
    if (numF 4 0 (l.drop 2)).1 ≠ 0 then ((numF 4 0 (l.drop 2)).1, 0, []) else if secondB (numF 4 0 (l.drop 2)).2.1 = false then (10, 0, [])
    else (0, 65536 + (f - 55296) * 1024 + ((numF 4 0 (l.drop 2)).2.1 - 56320), (numF 4 0 (l.drop 2)).2.2)
theorem two_of {l : List UInt8} (h : ([92, 117] : List UInt8).isPrefixOf l = true) : ∃ r, l = 92 :: 117 :: r := by
  rcases l with _ | ⟨a, _ | ⟨b, l⟩⟩
  · simp at h
  · simp at h
  · simp only [List.isPrefixOf, Bool.and_eq_true, beq_iff_eq] at h
    obtain ⟨rfl, rfl, _⟩ := h
    exact ⟨l, rfl⟩
theorem other_all (b : Nat) (f : Int) (l : List UInt8) (v : Value) (text : List UInt8) (w : World) (hf0 : 55296 ≤ f) (hf1 : f < 56320) (h : Rdr w b l v text) :
    Calls Tryz.prog 160 #[.pointer (some ⟨b, 0, none⟩), .int .i32 f] w fun e w' => e = .returned (.tuple #[.int .i32 (otherF f l).2.1, .int .i64 (otherF f l).1]) ∧ ((otherF f l).1 = 0 → Rdr w' b (otherF f l).2.2 v text) ∧ Below b w w' := by
  have H := Lib.hid h
  have c0 := h.c0
  have f0 := h.f0
  have HP := Lib.hid (fun W => has_any ⟨#[92, 117]⟩ (bs l) W)
  have HQ := Lib.hid (fun W => has_any (bs l) ⟨#[92, 117]⟩ W)
  rw [bs_toList] at HP HQ
  have e2 : (⟨#[92, 117]⟩ : ByteArray).data.toList = [92, 117] := rfl
  rw [e2] at HP HQ
  clear e2
  cases hp : l.isPrefixOf [92, 117] with
  | true =>
    have HX : Hid (otherF f l = (11, 0, [])) := by rw [Hid, otherF, if_pos hp]
    rw [hp] at HP
    clear h hp HQ
    generalize bs l = r at *
    go_enter Tryz.func160, Tryz.ntmps160
    go_wp2_with fail
    refine (HP.out _).mono ?_
    rintro e w' ⟨rfl, rfl⟩
    go_wp2
    go_ret2
    rw [HX.out]
    exact ⟨rfl, (fun e => by simp at e), Below.refl _ _⟩
  | false =>
    rw [hp] at HP
    cases hq : ([92, 117] : List UInt8).isPrefixOf l with
    | false =>
      have HX : Hid (otherF f l = (10, 0, [])) := by rw [Hid, otherF, if_neg (by rw [hp]; simp), if_pos hq]
      rw [hq] at HQ
      clear h hp hq
      generalize bs l = r at *
      go_enter Tryz.func160, Tryz.ntmps160
      go_wp2_with fail
      refine (HP.out _).mono ?_
      rintro e w' ⟨rfl, rfl⟩
      go_wp2_with fail
      refine (HQ.out _).mono ?_
      rintro e w' ⟨rfl, rfl⟩
      go_wp2
      go_ret2
      rw [HX.out]
      exact ⟨rfl, (fun e => by simp at e), Below.refl _ _⟩
    | true =>
      rw [hq] at HQ
      obtain ⟨r, rfl⟩ := two_of hq
      have hx : otherF f (92 :: 117 :: r) = if (numF 4 0 r).1 ≠ 0 then ((numF 4 0 r).1, 0, []) else if secondB (numF 4 0 r).2.1 = false then (10, 0, []) else (0, 65536 + (f - 55296) * 1024 + ((numF 4 0 r).2.1 - 56320), (numF 4 0 r).2.2) := by
        rw [otherF, if_neg (by rw [hp]; simp), if_neg (by rw [hq]; simp)]
        rfl
      have HN := Lib.hid (number_all b r v text _ (H.out.set0 (r2 := r)))
      have hb := numF_four r
      have q1 : 2 ≤ (bs (92 :: 117 :: r)).size := by rw [bs_size]; simp
      have q2 : (bs (92 :: 117 :: r)).extract 2 (bs (92 :: 117 :: r)).size = bs r := bs_drop 2 (92 :: 117 :: r)
      have hbw := lt_of_at h.box
      generalize bs (92 :: 117 :: r) = s at *
      generalize bs r = s2 at *
      generalize numF 4 0 r = F at *
      obtain ⟨x, n, r2⟩ := F
      dsimp only at hx HN hb
      obtain ⟨n0, n1⟩ := hb
      by_cases hx0 : x = 0
      · subst hx0
        rw [if_neg (by simp)] at hx
        have HS := Lib.hid (fun W => second_all n W n0 (by omega))
        cases hs : secondB n with
        | false =>
          rw [hs, if_pos rfl] at hx
          rw [hs] at HS
          have HX := Lib.hid hx
          clear h hp hq hx hs
          go_enter Tryz.func160, Tryz.ntmps160
          go_wp2_with fail
          refine (HP.out _).mono ?_
          rintro e w' ⟨rfl, rfl⟩
          go_wp2_with fail
          refine (HQ.out _).mono ?_
          rintro e w' ⟨rfl, rfl⟩
          go_wp2_with fail
          refine HN.out.mono ?_
          rintro e w1 ⟨rfl, hr1, hb1⟩
          have HB1 := Lib.hid hb1
          clear hr1 hb1
          go_wp2_with fail
          refine (HS.out _).mono ?_
          rintro e w' ⟨rfl, rfl⟩
          go_wp2
          go_ret2
          rw [HX.out]
          exact ⟨rfl, (fun e => by simp at e), Rdr.below0.trans HB1.out⟩
        | true =>
          rw [hs, if_neg (by simp)] at hx
          have hsn := of_decide_eq_true hs
          obtain ⟨m0, m1⟩ := hsn
          rw [hs] at HS
          have HX := Lib.hid hx
          clear h hp hq hx hs
          go_enter Tryz.func160, Tryz.ntmps160
          go_wp2_with fail
          refine (HP.out _).mono ?_
          rintro e w' ⟨rfl, rfl⟩
          go_wp2_with fail
          refine (HQ.out _).mono ?_
          rintro e w' ⟨rfl, rfl⟩
          go_wp2_with fail
          refine HN.out.mono ?_
          rintro e w1 ⟨rfl, hr1, hb1⟩
          have HR1 := Lib.hid (hr1 trivial)
          have HB1 := Lib.hid hb1
          clear hr1 hb1
          go_wp2_with fail
          refine (HS.out _).mono ?_
          rintro e w' ⟨rfl, rfl⟩
          go_wp2
          go_ret2
          rw [HX.out]
          exact ⟨rfl, fun _ => HR1.out, Rdr.below0.trans HB1.out⟩
      · rw [if_pos hx0] at hx
        have e0 : (x != 0) = true := by simpa using hx0
        have HX := Lib.hid hx
        clear h hp hq hx hx0
        go_enter Tryz.func160, Tryz.ntmps160
        go_wp2_with fail
        refine (HP.out _).mono ?_
        rintro e w' ⟨rfl, rfl⟩
        go_wp2_with fail
        refine (HQ.out _).mono ?_
        rintro e w' ⟨rfl, rfl⟩
        go_wp2_with fail
        refine HN.out.mono ?_
        rintro e w1 ⟨rfl, hr1, hb1⟩
        have HB1 := Lib.hid hb1
        clear hr1 hb1
        go_wp2
        go_ret2
        rw [HX.out]
        exact ⟨rfl, fun e => absurd e (by simpa using e0), Rdr.below0.trans HB1.out⟩
theorem bs_take (n : Nat) (l : List UInt8) : (bs l).extract 0 n = bs (l.take n) := by
  apply ByteArray.ext
  apply Array.toList_inj.1
  rw [ByteArray.data_extract, Array.toList_extract, bs_toList, bs_toList]
  simp
theorem strCells_bs (l : List UInt8) : Lib.strCells (bs l) = vals l := by
  rw [Lib.strCells, bs_toList]
  rfl
theorem Tabs.move {w w' : World} (h : Tabs w) (f : Fresh w w') : Tabs w' := Utf8Tabs_below h f
theorem step_append_string {P : Program} {ops : Array Oper} {o : Oper} {a : Act} {w : World} {K : Act → World → Prop} {Q : Exit → Act → World → Prop} {E : Prop} (hgd : o.guard = none) (sl x : Operand) (t u : TypeId)
    (ho : o.op = .call { callee := .builtin .append, args := #[sl, x], argTypes := #[t, u] })
    (base : Nat) (e : TypeId) (i : TypeInfo) (ht : P.underlying t = some (.slice e)) (hu : P.underlying u = some .string) (hi : P.info? e = some i) (hz : i.zero = some (.int .u8 0))
    (hsize : i.size = 1) (hby : i.bytes = 1)
    (v : Value) (n : Nat) (xs : List Value) (hs : a.eval sl = v) (hown : w.ownsRow base e 1 v n xs) (s : ByteArray) (hx : a.eval x = .string s)
    (h63 : n + s.size ≤ maxLen) (hbytes : n + s.size ≤ 140737488355328) (hbase : base ≤ w.heap.size)
    (h : ∀ v' w', w'.ownsRow base e 1 v' (n + s.size) (xs ++ Lib.strCells s) → w.grownBy w' v.ownBlock → K (a.put o.dst v') w') :
    if Region.wanted o (yielded ops a.tmps) = true then Oper.wp P o a w K Q else E := by
  have hw : Region.wanted o (yielded ops a.tmps) = true := by simp [Region.wanted, hgd]
  rw [if_pos hw]
  obtain ⟨v', w', hr, h2, h3, h4⟩ := Lib.run_append_own_string (P := P) w base t u o.type e i ht hu hi hz hsize hby v n xs hown s h63 hbytes hbase
  unfold Oper.wp execOp
  simp only [ho, resolve, invoke, builtin, Sem.run_bind, Sem.run_pure, Result.andThen_ok, List.map_toArray, List.map_cons, List.map_nil, hs, hx, hr]
  exact h v' w' h2 h3
theorem char_plain (b : Nat) (c : UInt8) (cs rest : List UInt8) (v : Value) (text : List UInt8) (w : World) (hT : Tabs w) (h0 : 32 ≤ c.toNat) (h1 : c.toNat ≠ 92) (hd : (Lib.decodeGo (bs (c :: cs ++ rest))).2 = (c :: cs).length) (hv : Lib.validD (c :: cs) = true) (hcl : (c :: cs).length ≤ 4)
    (hl : text.length ≤ 100000) (h : Rdr w b (c :: cs ++ rest) v text) : Calls Tryz.prog 101 #[.pointer (some ⟨b, 0, none⟩)] w (Reads w b rest (text ++ (c :: cs)) 0) := by
  obtain ⟨i0, hi, hz0, hz1, hz2⟩ := info_parts info5
  have HR := Lib.hid h
  have HB0 := Lib.hid (lt_of_at h.box)
  have HT := Lib.hid hT
  have c0 := h.c0
  have e1 : ((c.toNat : Int) == 92) = false := by rw [beq_eq_false_iff_ne]; omega
  have e2 : ¬ (c.toNat : Int) < 32 := by omega
  obtain ⟨p1, p2, _, p4⟩ := (show Cons (bs (c :: cs ++ rest)) c (bs (cs ++ rest)) from bs_cons c (cs ++ rest))
  have q1 : (bs (c :: cs ++ rest)).extract 0 (c :: cs).length = bs (c :: cs) := by rw [bs_take, List.take_left]
  have q2 : (bs (c :: cs ++ rest)).extract (c :: cs).length (bs (c :: cs ++ rest)).size = bs rest := by rw [bs_drop, List.drop_left]
  have q3 : (((c :: cs).length : Nat) : Int) ≤ ((bs (c :: cs ++ rest)).size : Int) := by rw [bs_size, List.length_append]; omega
  have q4 : 0 < (c :: cs).length := by simp
  have HV : Hid (Lib.validD (bs (c :: cs)).data.toList = true) := by rw [Hid, bs_toList]; exact hv
  have HQ : Hid ((bs (c :: cs)).size = (c :: cs).length) := bs_size _
  have HS : Hid (Lib.strCells (bs (c :: cs)) = vals (c :: cs)) := strCells_bs _
  have HDE : Hid (∀ W, Tabs W → Calls Tryz.prog 128 #[.string (bs (c :: cs ++ rest))] W fun e w' => (∃ x : Int, e = .returned (.tuple #[.int .i32 x, .int .i64 (((c :: cs).length : Nat) : Int)])) ∧ Fresh W w') := fun W hW => by
    refine (decode_any _ W hW).mono ?_
    rintro e w' ⟨he, hf⟩
    rw [hd] at he
    exact ⟨⟨_, he⟩, hf⟩
  clear h hT hd hv h0 h1
  generalize hn : (c :: cs).length = n at *
  generalize hR : bs (c :: cs ++ rest) = R at *
  generalize hq : bs (c :: cs) = q at *
  generalize hr1 : bs rest = r1 at *
  have HN := Lib.hid hn
  have HRE := Lib.hid hR
  have HR1 := Lib.hid hr1
  clear hn hR hq hr1
  go_enter Tryz.func101, Tryz.ntmps101
  go_wp2_with fail
  refine (HDE.out _ HT.out).mono ?_
  rintro e w1 ⟨⟨x, rfl⟩, hf1⟩
  have hr := HR.out.fresh hf1
  have d0 := hr.c0
  rw [HRE.out] at d0
  have d1 := hr.c1
  have hlt := lt_of_at hr.box
  have HF1 := Lib.hid hf1
  have HRR := Lib.hid hr
  clear hf1 hr c0
  go_wp2_with fail
  refine (isValid_any q _ (by rw [HQ.out]; omega) (HT.out.move HF1.out)).mono ?_
  rintro e w2 ⟨rfl, hf2⟩
  rw [HV.out]
  have hr := HRR.out.fresh hf2
  have d0' := hr.c0
  rw [HRE.out] at d0'
  have d1' := hr.c1
  have hlt' := lt_of_at hr.box
  have HF2 := Lib.hid (HF1.out.trans hf2)
  have HRR2 := Lib.hid hr
  have k1 : text.length + q.size ≤ maxLen := by rw [HQ.out]; unfold maxLen; omega
  have k2 : text.length + q.size ≤ 140737488355328 := by rw [HQ.out]; omega
  have K1 := Lib.hid k1
  have K4 : Hid (0 < text.length + q.size) := by rw [Hid, HQ.out]; omega
  have K2 := Lib.hid k2
  have K3 : Hid (b + 1 ≤ w2.heap.size) := hlt'
  clear hf2 hr d0 d1 hlt HRR k1 k2
  go_wp2_with fail
  go_region_law ((refine step_append_string (by rfl) _ _ 145 9 (by rfl) (b + 1) 5 i0 Tryz.underlying145 Tryz.underlying9 hi hz0 hz1 hz2 v text.length (vals text) (by rfl) HRR2.out.buf q (by rfl) K1.out K2.out K3.out ?_; intro v3 w3 hown hg; obtain ⟨g3, cap3, rfl, _⟩ := World.ownsRow.form hown K4.out; have HP := Lib.hid (HRR2.out.push (m := c :: cs) (by rw [HQ.out, HS.out] at hown; exact Buf.more hown HN.out) ⟨hg.os, hg.tape, hg.output, hg.size, hg.block⟩); clear hown hg; have g1 := HP.out.c1; have g2 := HP.out.f1; have g4 := HP.out.lt))
  all_goals
    have s0 := HP.out.c0
    rw [HRE.out] at s0
    have s1 := HP.out.f0
    have HS2 := Lib.hid (HP.out.rdr.set0 (r2 := rest))
    rw [HR1.out] at HS2
    go_wp2
    go_ret
    rw [HQ.out]
    exact ⟨rfl, ⟨_, HS2.out⟩, ((Below.mono HF2.out (Nat.le_of_lt HB0.out)).trans HP.out.below).trans Rdr.below0⟩
def Item (p m : List UInt8) : Prop := (∃ c cs, p = c :: cs ∧ c.toNat ≠ 34) ∧ ∀ (b : Nat) (rest : List UInt8) (v : Value) (text : List UInt8) (w : World), Tabs w → text.length ≤ 100000 → Rdr w b (p ++ rest) v text → Calls Tryz.prog 101 #[.pointer (some ⟨b, 0, none⟩)] w (Reads w b rest (text ++ m) 0)
inductive Un : List UInt8 → List UInt8 → Prop
  | nil : Un [] []
  | step (p m src out : List UInt8) : Item p m → Un src out → Un (p ++ src) (m ++ out)
def unqRes (src out : List UInt8) : Ending := if out.length ≤ 4096 then .returned (.tuple #[.string (bs out), .int .i64 ((src.length : Int) + 2), .int .i64 0]) else .returned (.tuple #[.string ⟨#[]⟩, .int .i64 0, .int .i64 2])
def restLen (w : World) (b : Nat) : Nat := match w.cell? ⟨b, 0, none⟩ with
  | some (.string s) => s.size
  | _ => 0
theorem Rdr.restLen {w : World} {b : Nat} {rest : List UInt8} {v : Value} {text : List UInt8} (h : Rdr w b rest v text) : YtcljplkkgpjhlaaGreatDoorR.restLen w b = rest.length := by
  rw [YtcljplkkgpjhlaaGreatDoorR.restLen, h.c0]
  exact bs_size rest
theorem unquote_any (src out behind : List UInt8) (w : World) (hU : Un src out) (ho : out.length ≤ 100000) (hs : src.length + behind.length ≤ 1000000) (hT : Tabs w) :
    Calls Tryz.prog 74 #[.string (bs (34 :: (src ++ 34 :: behind)))] w fun e w' => e = unqRes src out ∧ Fresh w w' := by
  have HU := Lib.hid hU
  have HT := Lib.hid hT
  have HZ : Hid ((bs (34 :: (src ++ 34 :: behind))).size = src.length + behind.length + 2) := by rw [Hid, bs_size]; simp; omega
  obtain ⟨p1, p2, p3, p4⟩ := bs_cons 34 (src ++ 34 :: behind)
  generalize bs (34 :: (src ++ 34 :: behind)) = r at *
  have H0 : Hid (Rdr (w.alloc (.cells #[.string (bs (src ++ 34 :: behind)), .slice none 0 0] 153)) w.heap.size (src ++ 34 :: behind) (.slice none 0 0) []) :=
    ⟨at_new w _, World.ownsRow_nil _ _ _ _⟩
  have HF0 := Lib.hid ((Fresh.refl w).alloc (.cells #[.string (bs (src ++ 34 :: behind)), .slice none 0 0] 153))
  generalize bs (src ++ 34 :: behind) = r1 at *
  clear hU hT
  go_enter Tryz.func74, Tryz.ntmps74
  go_wp2
  go_loopw [4] (fun a4 wr => a4 = .int .i64 0 ∧ ∃ (t1 src2 out2 : List UInt8) (v : Value), Hid (Un src2 out2) ∧ Hid (out = t1 ++ out2) ∧ Hid (Rdr wr w.heap.size (src2 ++ 34 :: behind) v t1) ∧ Hid (Fresh w wr)) (fun _ wr => restLen wr w.heap.size)
  case atStart => exact ⟨rfl, [], src, out, .slice none 0 0, HU.out, rfl, H0.out, HF0.out⟩
  case round =>
    obtain ⟨rfl, t1, src2, out2, v, HU2, HO, HR, HF⟩ := hrel
    clear H0 HF0
    have hu := HU2.out
    rcases hu with _ | ⟨p, m, src3, out3, hi, hu3⟩
    · have HR2 : Hid (Rdr wr w.heap.size (34 :: behind) v t1) := HR.out
      have HO2 : Hid (out = t1) := by rw [Hid, HO.out, List.append_nil]
      clear HU2 HO HR
      go_wp2_with fail
      refine (mark_yes _ behind v t1 _ HR2.out).mono ?_
      rintro e w' ⟨rfl, rfl⟩
      have c0 := HR2.out.c0
      have c1 := HR2.out.c1
      have hb1 : r.size ≤ 1000002 := by rw [HZ.out]; omega
      have HZ2 : Hid ((bs (34 :: behind)).size = behind.length + 1) := by rw [Hid, bs_size]; rfl
      have hb2 : (bs (34 :: behind)).size ≤ 1000001 := by rw [HZ2.out]; omega
      have hb3 : (bs (34 :: behind)).size ≤ r.size := by rw [HZ2.out, HZ.out]; omega
      have HEQ : Hid ((r.size : Int) - ((bs (34 :: behind)).size : Int) + 1 = (src.length : Int) + 2) := by rw [Hid, HZ.out, HZ2.out]; omega
      generalize bs (34 :: behind) = r2 at *
      have hbuf := HR2.out.buf
      rcases hbuf with ⟨hl, ⟨rfl, hl0⟩ | ⟨g, cap, cur, rfl, hg1, hg2, hg3, hg4, hg5, hg6⟩⟩
      · obtain rfl : t1 = [] := by cases t1 with
          | nil => rfl
          | cons => simp at hl0
        have hcv := text_nil wr.drew
        clear hl hl0
        have HE : Hid (unqRes src out = .returned (.tuple #[.string (bs out), .int .i64 ((src.length : Int) + 2), .int .i64 0])) := by rw [Hid, unqRes, if_pos (by rw [HO2.out]; simp)]
        go_wp2
        have w1 : IntKind.i64.wrap ((r.size : Int) - (r2.size : Int)) = (r.size : Int) - (r2.size : Int) := IntWalk.i64_in _ (by omega)
        have w2 : IntKind.i64.wrap ((r.size : Int) - (r2.size : Int) + 1) = (r.size : Int) - (r2.size : Int) + 1 := IntWalk.i64_in _ (by omega)
        go_region_held3 (fun w' => (w'.cell? ⟨w.heap.size, 0, none⟩ = some (.string r2) ∧ w'.cell? ⟨w.heap.size, 1, none⟩ = some (.slice none 0 0) ∧ (convert 145 9 (.slice none 0 0)).run Tryz.prog w' = .ok (.string ⟨#[]⟩) w')) (go_keep) ((fail))
        all_goals
          go_wp2
          refine bodyPost_ret (v := .tuple #[.string (bs []), .int .i64 ((r.size : Int) - (r2.size : Int) + 1), .int .i64 0]) (by simp [results, Tryz.results74, go_sem, bs]) rfl ⟨?_, HF.out.drew⟩
          rw [HE.out, HO2.out, HEQ.out]
      · have hcv : (convert 145 9 (.slice (some ⟨g, 0, none⟩) t1.length cap)).run Tryz.prog wr.drew = .ok (.string (bs t1)) wr.drew := (Buf.text HR2.out.buf.drew).2
        clear hl hg1 hg2 hg3 hg4 hg5 hg6
        by_cases h4 : t1.length ≤ 4096
        · have h4' : ¬ 4096 < t1.length := by omega
          have HE : Hid (unqRes src out = .returned (.tuple #[.string (bs out), .int .i64 ((src.length : Int) + 2), .int .i64 0])) := by rw [Hid, unqRes, if_pos (by rw [HO2.out]; exact h4)]
          go_wp2
          have w1 : IntKind.i64.wrap ((r.size : Int) - (r2.size : Int)) = (r.size : Int) - (r2.size : Int) := IntWalk.i64_in _ (by omega)
          have w2 : IntKind.i64.wrap ((r.size : Int) - (r2.size : Int) + 1) = (r.size : Int) - (r2.size : Int) + 1 := IntWalk.i64_in _ (by omega)
          go_region_held3 (fun w' => (w'.cell? ⟨w.heap.size, 0, none⟩ = some (.string r2) ∧ w'.cell? ⟨w.heap.size, 1, none⟩ = some (.slice (some ⟨g, 0, none⟩) t1.length cap) ∧ (convert 145 9 (.slice (some ⟨g, 0, none⟩) t1.length cap)).run Tryz.prog w' = .ok (.string (bs t1)) w')) (go_keep) ((fail))
          all_goals
            go_wp2
            refine bodyPost_ret (v := .tuple #[.string (bs t1), .int .i64 ((r.size : Int) - (r2.size : Int) + 1), .int .i64 0]) (by simp [results, Tryz.results74, go_sem]) rfl ⟨?_, HF.out.drew⟩
            rw [HE.out, HO2.out, HEQ.out]
        · have h4' : 4096 < t1.length := by omega
          have HE : Hid (unqRes src out = .returned (.tuple #[.string ⟨#[]⟩, .int .i64 0, .int .i64 2])) := by rw [Hid, unqRes, if_neg (by rw [HO2.out]; exact h4)]
          go_wp2
          refine bodyPost_ret (v := .tuple #[.string ⟨#[]⟩, .int .i64 0, .int .i64 2]) (by simp [results, Tryz.results74, go_sem]) rfl ⟨?_, HF.out⟩
          rw [HE.out]
    · obtain ⟨⟨c, cs, rfl, hc⟩, hI⟩ := hi
      have HR2 : Hid (Rdr wr w.heap.size ((c :: cs) ++ (src3 ++ 34 :: behind)) v t1) := by rw [Hid, ← List.append_assoc]; exact HR.out
      have HO2 : Hid (out = (t1 ++ m) ++ out3) := by rw [Hid, HO.out, List.append_assoc]
      have HI := Lib.hid (hI w.heap.size (src3 ++ 34 :: behind) v t1 wr (HT.out.move HF.out) (by have := congrArg List.length HO.out; rw [List.length_append] at this; omega) HR2.out)
      have HU3 := Lib.hid hu3
      have HM : Hid (restLen wr w.heap.size = ((c :: cs) ++ (src3 ++ 34 :: behind)).length) := HR2.out.restLen
      clear HU2 hu3 hI HR
      go_wp2_with fail
      refine (mark_no _ c (cs ++ (src3 ++ 34 :: behind)) v t1 _ hc HR2.out).mono ?_
      rintro e w' ⟨rfl, rfl⟩
      go_wp2_with fail
      refine HI.out.mono ?_
      rintro e w2 ⟨rfl, ⟨v2, hr2⟩, hb2⟩
      have HR3 := Lib.hid hr2
      have HF3 := Lib.hid (HF.out.below hb2 (Nat.le_refl _))
      clear hr2 hb2
      go_wp2
      go_roundw
      case rel => exact ⟨rfl, t1 ++ m, src3, out3, v2, HU3.out, HO2.out, HR3.out, HF3.out⟩
      case measure => rw [HM.out, HR3.out.restLen]; simp; omega
end
end Go.Proofs.YtcljplkkgpjhlaaGreatDoorR
