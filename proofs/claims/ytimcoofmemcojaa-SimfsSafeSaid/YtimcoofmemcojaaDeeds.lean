/-
  What the functions of package simfs that do deeds to directories leave.
-/
import Derived.Test.YtimcoofmemcojaaSimple
import Derived.Lib.Walk
import Derived.StillTailTactics
import Derived.Deep.QuietTactic
import Derived.BigQuiet
import Derived.Deep.RegionHeld3
namespace Go.Proofs.Ytimcoofmemcojaa
open Go.ChangeShapes Go.WideShapes Go.ChangeAt Go.RowKit
variable {base : Nat} {w : World} {b : Nat} {s : St} {L : Lay}

theorem empty_of {s : ByteArray} (h : s.size = 0) : s = ⟨#[]⟩ := ByteArray.ext (Array.eq_empty_of_size_eq_zero h)
theorem list_ne {s : ByteArray} (h : s.size ≠ 0) : s.toList.isEmpty = false := by
  cases e : s.toList.isEmpty with
  | false => rfl
  | true =>
    rw [List.isEmpty_iff] at e
    exact absurd (by show s.data.size = 0; rw [← Array.length_toList, ← ByteArray.toList_eq, e]; rfl) h
theorem ne_of {s : ByteArray} (h : s.size ≠ 0) : (!s.toList.isEmpty) = true := by rw [list_ne h]; rfl
theorem len_ok {s : ByteArray} (h : s.size ≤ 64) : s.size ≤ maxLen := by unfold maxLen; omega
/-- A block that the map isn't, behind a turn of the map. -/
theorem turned_at {w w' : World} {r k : Nat} {o : Obj} (h : w.mapTurned w' r) (hk : w.heap[k]? = some o) (hne : k ≠ r) : w'.heap[k]? = some o := by
  rw [h.grown.block k (lt_of_at hk) (fun e => hne (by cases e; rfl))]; exact hk
theorem cell_of_at {w : World} {k i : Nat} {cs : Array Value} {t : TypeId} (h : w.heap[k]? = some (.cells cs t (0, 0))) {v : Value} (hv : cs[i]? = some v) : w.cell? ⟨k, i, none⟩ = some v := by
  simp [World.cell?, h, hv]
theorem boxed (w : World) (bm : Nat) (o : Obj) {w' : World} (h : (w.alloc o).grownBy w' (some bm)) : w.grownBy w' (some bm) :=
  grownBy_trans (World.grownBy_alloc w o _) h
set_option maxRecDepth 100000 in
set_option maxHeartbeats 400000 in
theorem doTo_both (w : World) (src dst : ByteArray) (f bm n : Nat) (m : Dir) (hn : n ≤ 1000000) (h1 : src.size ≠ 0) (h2 : dst.size ≠ 0) (hs1 : src.size ≤ 64) (hs2 : dst.size ≤ 64) (hd : dirIs w bm n m) :
    Calls Try.prog 43 #[.agg #[.string src, .string dst, .pointer (some ⟨f, 0, none⟩)], .map (some bm)] w fun e w' => e = .returned (.tuple #[]) ∧ dirIs w' bm (n + 1) (Deed.on ⟨src, dst, f⟩ m) ∧ w.grownBy w' (some bm) := by
  have l1 := ne_of h1
  have l2 := ne_of h2
  have hlt := hd.lt
  have hon : Hid (Deed.on ⟨src, dst, f⟩ m = fun s => if s = dst then some f else if s = src then none else m s) := by
    funext s; simp [Deed.on, h1, h2]
  obtain ⟨D, hown, hD⟩ := hd
  have HO := Lib.hid (hown.alloc (.cells #[.string src, .string dst, .pointer (some ⟨f, 0, none⟩)] 70))
  have HD : Hid (DirFact m D) := hD
  clear h1 h2 hown hD
  go_enter Try.func43, Try.ntmps43
  go_wp2_with (first
    | (at_delete; refine wpList_delete_own _ rfl _ _ 50 9 rfl 63 law9 Try.underlying50 _ bm n D rfl HO.out _ _ rfl (key_of src (len_ok hs1)) ?_; intro w1 ho1 ht1; have hb1 := turned_at ht1 (at_new w _) (by omega); have k0 := cell_of_at hb1 (i := 0) rfl; have k1 := cell_of_at hb1 (i := 1) rfl; have k2 := cell_of_at hb1 (i := 2) rfl; have HO1 := Lib.hid ho1; have HT1 := Lib.hid ht1; clear ho1 ht1 hb1)
    | (at_mapUpdate; refine wpList_mapUpdate_in _ rfl _ _ _ 50 rfl 9 63 law9 Try.underlying50 _ bm n _ rfl HO1.out (by unfold maxLen; omega) _ _ _ rfl rfl (key_of dst (len_ok hs2)) _ [] (fileR_fp f) ?_; intro w2 ho2 ht2; have HO2 := Lib.hid ho2; have HT2 := Lib.hid ht2; clear ho2 ht2))
  go_end0
  refine ⟨rfl, ?_, boxed w bm _ (grownBy_trans HT1.out.grown HT2.out.grown)⟩
  rw [hon.out]
  exact ⟨_, HO2.out, DirFact.put (DirFact.del HD.out src) HO1.out.isMap dst (len_ok hs2) f⟩
set_option maxRecDepth 100000 in
set_option maxHeartbeats 400000 in
theorem doTo_dst (w : World) (dst : ByteArray) (f bm n : Nat) (m : Dir) (hn : n ≤ 1000000) (h2 : dst.size ≠ 0) (hs2 : dst.size ≤ 64) (hd : dirIs w bm n m) :
    Calls Try.prog 43 #[.agg #[.string ⟨#[]⟩, .string dst, .pointer (some ⟨f, 0, none⟩)], .map (some bm)] w fun e w' => e = .returned (.tuple #[]) ∧ dirIs w' bm (n + 1) (Deed.on ⟨⟨#[]⟩, dst, f⟩ m) ∧ w.grownBy w' (some bm) := by
  have l2 := ne_of h2
  have hlt := hd.lt
  have hon : Hid (Deed.on ⟨⟨#[]⟩, dst, f⟩ m = fun s => if s = dst then some f else m s) := by
    funext s
    have : (ByteArray.mk #[]).size = 0 := rfl
    simp [Deed.on, h2, this]
  obtain ⟨D, hown, hD⟩ := hd
  have HO := Lib.hid (hown.alloc (.cells #[.string ⟨#[]⟩, .string dst, .pointer (some ⟨f, 0, none⟩)] 70))
  have HD : Hid (DirFact m D) := hD
  clear h2 hown hD
  go_enter Try.func43, Try.ntmps43
  go_wp2_with (at_mapUpdate; refine wpList_mapUpdate_in _ rfl _ _ _ 50 rfl 9 63 law9 Try.underlying50 _ bm n _ rfl HO.out (by unfold maxLen; omega) _ _ _ rfl rfl (key_of dst (len_ok hs2)) _ [] (fileR_fp f) ?_; intro w2 ho2 ht2; have HO2 := Lib.hid ho2; have HT2 := Lib.hid ht2; clear ho2 ht2)
  go_end0
  refine ⟨rfl, ?_, boxed w bm _ HT2.out.grown⟩
  rw [hon.out]
  exact ⟨_, HO2.out, DirFact.put HD.out HO.out.isMap dst (len_ok hs2) f⟩
set_option maxRecDepth 100000 in
set_option maxHeartbeats 400000 in
theorem doTo_src (w : World) (src : ByteArray) (f bm n : Nat) (m : Dir) (h1 : src.size ≠ 0) (hs1 : src.size ≤ 64) (hd : dirIs w bm n m) :
    Calls Try.prog 43 #[.agg #[.string src, .string ⟨#[]⟩, .pointer (some ⟨f, 0, none⟩)], .map (some bm)] w fun e w' => e = .returned (.tuple #[]) ∧ dirIs w' bm (n + 1) (Deed.on ⟨src, ⟨#[]⟩, f⟩ m) ∧ w.grownBy w' (some bm) := by
  have l1 := ne_of h1
  have hlt := hd.lt
  have hon : Hid (Deed.on ⟨src, ⟨#[]⟩, f⟩ m = fun s => if s = src then none else m s) := by
    funext s
    have : (ByteArray.mk #[]).size = 0 := rfl
    simp [Deed.on, h1, this]
  obtain ⟨D, hown, hD⟩ := hd
  have HO := Lib.hid (hown.alloc (.cells #[.string src, .string ⟨#[]⟩, .pointer (some ⟨f, 0, none⟩)] 70))
  have HD : Hid (DirFact m D) := hD
  clear h1 hown hD
  go_enter Try.func43, Try.ntmps43
  go_wp2_with (at_delete; refine wpList_delete_own _ rfl _ _ 50 9 rfl 63 law9 Try.underlying50 _ bm n D rfl HO.out _ _ rfl (key_of src (len_ok hs1)) ?_; intro w1 ho1 ht1; have hb1 := turned_at ht1 (at_new w _) (by omega); have k0 := cell_of_at hb1 (i := 0) rfl; have k1 := cell_of_at hb1 (i := 1) rfl; have k2 := cell_of_at hb1 (i := 2) rfl; have HO1 := Lib.hid ho1; have HT1 := Lib.hid ht1; clear ho1 ht1 hb1)
  go_end0
  refine ⟨rfl, ?_, boxed w bm _ HT1.out.grown⟩
  rw [hon.out]
  exact ⟨_, HO1.out.mono (Nat.le_succ _), DirFact.del HD.out src⟩
set_option maxRecDepth 100000 in
theorem doTo_none (w : World) (f bm n : Nat) (m : Dir) (hd : dirIs w bm n m) :
    Calls Try.prog 43 #[.agg #[.string ⟨#[]⟩, .string ⟨#[]⟩, .pointer (some ⟨f, 0, none⟩)], .map (some bm)] w fun e w' => e = .returned (.tuple #[]) ∧ dirIs w' bm (n + 1) (Deed.on ⟨⟨#[]⟩, ⟨#[]⟩, f⟩ m) ∧ w.grownBy w' (some bm) := by
  have hlt := hd.lt
  have hon : Hid (Deed.on ⟨⟨#[]⟩, ⟨#[]⟩, f⟩ m = m) := by
    funext s
    have : (ByteArray.mk #[]).size = 0 := rfl
    simp [Deed.on, this]
  have HD := Lib.hid hd
  clear hd
  go_enter Try.func43, Try.ntmps43
  go_wp2
  go_end0
  exact ⟨rfl, by rw [hon.out]; exact (HD.out.move (Below.heap_alloc _ _ _ hlt)).mono (Nat.le_succ _), World.grownBy_alloc _ _ _⟩
theorem doTo_any (w : World) (d : Deed) (bm n : Nat) (m : Dir) (hn : n ≤ 1000000) (hs1 : d.src.size ≤ 64) (hs2 : d.dst.size ≤ 64) (hd : dirIs w bm n m) :
    Calls Try.prog 43 #[.agg #[.string d.src, .string d.dst, .pointer (some ⟨d.file, 0, none⟩)], .map (some bm)] w fun e w' => e = .returned (.tuple #[]) ∧ dirIs w' bm (n + 1) (d.on m) ∧ w.grownBy w' (some bm) := by
  obtain ⟨src, dst, f⟩ := d
  dsimp only at *
  by_cases h1 : src.size = 0
  · obtain rfl := empty_of h1
    by_cases h2 : dst.size = 0
    · obtain rfl := empty_of h2
      exact doTo_none w f bm n m hd
    · exact doTo_dst w dst f bm n m hn h2 hs2 hd
  · by_cases h2 : dst.size = 0
    · obtain rfl := empty_of h2
      exact doTo_src w src f bm n m h1 hs1 hd
    · exact doTo_both w src dst f bm n m hn h1 h2 hs1 hs2 hd
end Go.Proofs.Ytimcoofmemcojaa
