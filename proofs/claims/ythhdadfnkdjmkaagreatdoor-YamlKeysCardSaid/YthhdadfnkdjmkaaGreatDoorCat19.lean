/-
  Package yaml's reader: a key, with its value.
  Package yaml's reader: a key, with its value, whatever stands behind.
-/
import Derived.Test.YthhdadfnkdjmkaaGreatDoorCat18
import Derived.Test.YthhdadfnkdjmkaaGreatDoorCat11
import Derived.Deep.RegionHeld3
import Derived.IntWalk
namespace Go.Proofs.YthhdadfnkdjmkaaGreatDoor.y
open Go.ChangeShapes Go.WideShapes Go.ChangeAt Go.RowKit
attribute [local go_sem ↓] Go.wp_at_zero Go.wp_at_succ
variable {w : World}
set_option maxRecDepth 100000 in
set_option maxHeartbeats 1000000 in
theorem pair_form (b mp : Nat) (R : List Rw) (line ind ins : Nat) (ar : Int) (d : Bool) (key bh : List UInt8) (w : World) (h : Rdr w b R line) (hk : key.length ≤ 100000) (hkey : keyB key = false) :
    Calls Tryz.prog 116 #[.pointer (some ⟨b, 0, none⟩), placeV ar ind ins d, entV ⟨key, false, bh⟩, .map (some mp)] w fun e w' => Panics line 6 e ∧ Fresh w w' := by
  have HW : Hid (∀ (x : Int) (W : World), Rdr W b R line → Calls Tryz.prog 54 #[.pointer (some ⟨b, 0, none⟩), .int .i64 x] W fun e w' => e = .returned (misV line x) ∧ Fresh W w') := fun x W hW => wrong_any b R line x W hW
  have H := Lib.hid h
  have HB := Lib.hid (boxes3_new w ar ind ins d ⟨key, false, bh⟩)
  have HKY : Hid (∀ W : World, Calls Tryz.prog 12 #[.string (tx key)] W fun e w' => e = .returned (.bool false) ∧ Fresh W w') := fun W => by
    have := key_any key W (by omega)
    rw [hkey] at this
    exact this
  clear h hk hkey
  unfold placeV entV
  dsimp only
  go_enter Tryz.func116, Tryz.ntmps116
  go_upto_region 1 with (fail)
  generalize ((w.alloc (placeO ar ind ins d)).alloc (entO ⟨key, false, bh⟩)).alloc (.cells pcellZ 54 (0, 0)) = w0 at *
  generalize w.heap.size = sz at *
  obtain ⟨n0, n1, n2, nl⟩ := ent_facts HB.out.en
  go_wp2_with fail
  refine (HKY.out _).mono ?_
  rintro e w1 ⟨rfl, hf⟩
  have HF1 : Hid (Fresh w w1) := HB.out.fr.trans hf
  clear hf n0 n1 n2 nl
  go_wp2_with (go_at_call 54; refine (HW.out _ _ (H.out.move HF1.out)).mono ?_; rintro e w2 ⟨rfl, hf⟩; have HF2 := Lib.hid hf; clear hf)
  exact ⟨rfl, rfl, HF1.out.trans HF2.out⟩
set_option maxRecDepth 100000 in
set_option maxHeartbeats 1000000 in
theorem pair_long_q (b mp : Nat) (R : List Rw) (line ind ins : Nat) (ar : Int) (d : Bool) (key bh : List UInt8) (w : World) (h : Rdr w b R line) (hk : key.length ≤ 100000) (hl : 4096 < key.length) :
    Calls Tryz.prog 116 #[.pointer (some ⟨b, 0, none⟩), placeV ar ind ins d, entV ⟨key, true, bh⟩, .map (some mp)] w fun e w' => Panics line 2 e ∧ Fresh w w' := by
  have HW : Hid (∀ (x : Int) (W : World), Rdr W b R line → Calls Tryz.prog 54 #[.pointer (some ⟨b, 0, none⟩), .int .i64 x] W fun e w' => e = .returned (misV line x) ∧ Fresh W w') := fun x W hW => wrong_any b R line x W hW
  have H := Lib.hid h
  have HB := Lib.hid (boxes3_new w ar ind ins d ⟨key, true, bh⟩)
  have g1 : 4096 < (tx key).size := by rw [tx_size]; exact hl
  have g2 : (tx key).size ≤ 100000 := by rw [tx_size]; exact hk
  clear h hk hl
  unfold placeV entV
  dsimp only
  go_enter Tryz.func116, Tryz.ntmps116
  go_upto_region 1 with (fail)
  generalize ((w.alloc (placeO ar ind ins d)).alloc (entO ⟨key, true, bh⟩)).alloc (.cells pcellZ 54 (0, 0)) = w0 at *
  generalize w.heap.size = sz at *
  have HFC : Hid (Fresh w0 w0) := Fresh.refl w0
  obtain ⟨n0, n1, n2, nl⟩ := ent_facts HB.out.en
  have HR : Hid (Rdr w0 b R line) := H.out.move (HB.out.fr.trans HFC.out)
  go_wp2_with (go_at_call 54; refine (HW.out _ _ HR.out).mono ?_; rintro e w2 ⟨rfl, hf⟩; have HF2 := Lib.hid hf; clear hf)
  exact ⟨rfl, rfl, (HB.out.fr.trans HFC.out).trans HF2.out⟩
set_option maxRecDepth 100000 in
set_option maxHeartbeats 1000000 in
theorem pair_twice_q (b mp : Nat) (R : List Rw) (line ind ins : Nat) (ar : Int) (d : Bool) (key bh : List UInt8) (w : World) (h : Rdr w b R line) (hk : key.length ≤ 100000) (k : Nat) (L : List ByteArray) (hs : v.seenIs w mp k L) (hl : ¬ 4096 < key.length) (hm : v.inB (tx key) L = true) :
    Calls Tryz.prog 116 #[.pointer (some ⟨b, 0, none⟩), placeV ar ind ins d, entV ⟨key, true, bh⟩, .map (some mp)] w fun e w' => Panics line 8 e ∧ Fresh w w' := by
  have HW : Hid (∀ (x : Int) (W : World), Rdr W b R line → Calls Tryz.prog 54 #[.pointer (some ⟨b, 0, none⟩), .int .i64 x] W fun e w' => e = .returned (misV line x) ∧ Fresh W w') := fun x W hW => wrong_any b R line x W hW
  have H := Lib.hid h
  have HS := Lib.hid hs
  have HB := Lib.hid (boxes3_new w ar ind ins d ⟨key, true, bh⟩)
  have g1 : ¬ 4096 < (tx key).size := by rw [tx_size]; exact hl
  have g2 : (tx key).size ≤ 100000 := by rw [tx_size]; exact hk
  have HM := Lib.hid hm
  clear h hk hl hs hm
  unfold placeV entV
  dsimp only
  go_enter Tryz.func116, Tryz.ntmps116
  go_upto_region 1 with (fail)
  generalize ((w.alloc (placeO ar ind ins d)).alloc (entO ⟨key, true, bh⟩)).alloc (.cells pcellZ 54 (0, 0)) = w0 at *
  generalize w.heap.size = sz at *
  have HFC : Hid (Fresh w0 w0) := Fresh.refl w0
  obtain ⟨n0, n1, n2, nl⟩ := ent_facts HB.out.en
  have HR : Hid (Rdr w0 b R line) := H.out.move (HB.out.fr.trans HFC.out)
  have hlook := (seen_wr HS.out (p := fun _ => False) (.of_fresh (HB.out.fr.trans HFC.out)) id).look (tx key) (by omega)
  rw [HM.out] at hlook
  go_wp2_with (go_at_call 54; refine (HW.out _ _ HR.out).mono ?_; rintro e w2 ⟨rfl, hf⟩; have HF2 := Lib.hid hf; clear hf)
  exact ⟨rfl, rfl, (HB.out.fr.trans HFC.out).trans HF2.out⟩
set_option maxRecDepth 100000 in
set_option maxHeartbeats 4000000 in
theorem pair_below_q (b mp : Nat) (R : List Rw) (line ind ins : Nat) (ar : Int) (d : Bool) (key bh : List UInt8) (w : World) (h : Rdr w b R line) (hk : key.length ≤ 100000) (k : Nat) (L : List ByteArray) (hs : v.seenIs w mp k L) (hk1 : k ≤ 1000000) (hmb : b < mp) (hi : ins < 32) (hl : ¬ 4096 < key.length) (hm : v.inB (tx key) L = false)
    (x : Res) (R' : List Rw) (he : bh = []) (hq : ∀ W : World, Wr (fun k => k = b ∨ k = mp) w W → Rdr W b R line → Calls Tryz.prog 55 #[.pointer (some ⟨b, 0, none⟩), .int .i64 (ind : Int), .int .i64 ((ins : Int) + 1)] W (BlkIs W b x R')) :
    Calls Tryz.prog 116 #[.pointer (some ⟨b, 0, none⟩), placeV ar ind ins d, entV ⟨key, true, bh⟩, .map (some mp)] w (PairIs w b mp k L key (withRows x R')) := by
  have H := Lib.hid h
  have HS := Lib.hid hs
  have HQ := Lib.hid hq
  have HLT := Lib.hid h.lt
  have HMLT := Lib.hid hs.lt
  have HMB := Lib.hid hmb
  have HK1 := Lib.hid hk1
  have HB := Lib.hid (boxes3_new w ar ind ins d ⟨key, true, bh⟩)
  have g1 : ¬ 4096 < (tx key).size := by rw [tx_size]; exact hl
  have g2 : (tx key).size ≤ 100000 := by rw [tx_size]; exact hk
  have HM := Lib.hid hm
  have e1 : (tx bh).toList.isEmpty = true := by rw [tx_list, he]; rfl
  clear h hk hl hs hm hq hmb hk1 he
  unfold placeV entV
  dsimp only
  go_enter Tryz.func116, Tryz.ntmps116
  go_upto_region 1 with (fail)
  generalize ((w.alloc (placeO ar ind ins d)).alloc (entO ⟨key, true, bh⟩)).alloc (.cells pcellZ 54 (0, 0)) = w0 at *
  generalize hsz : w.heap.size = sz at *
  have HSZ := Lib.hid hsz
  clear hsz
  have HFC : Hid (Fresh w0 w0) := Fresh.refl w0
  obtain ⟨n0, n1, n2, nl⟩ := ent_facts HB.out.en
  have HR : Hid (Rdr w0 b R line) := H.out.move (HB.out.fr.trans HFC.out)
  have HSC : Hid (v.seenIs w0 mp k L) := seen_wr HS.out (p := fun _ => False) (.of_fresh (HB.out.fr.trans HFC.out)) id
  have hlook := HSC.out.look (tx key) (by omega)
  rw [HM.out] at hlook
  obtain ⟨D, hown, hD⟩ := HSC.out
  have HO := Lib.hid hown
  have HD := Lib.hid hD
  clear hown hD
  go_wp2_with (at_mapUpdate; refine wpList_mapUpdate_own _ rfl _ _ _ 165 rfl 9 4 v.law9 Tryz.underlying165 v.boolR mp k D rfl HO.out (by have := HK1.out; unfold maxLen; omega) _ _ _ rfl rfl (v.key_of (tx key) (by omega)) _ [] rfl ?_; intro wd ho5 hg5; have HO5 := Lib.hid ho5; have HG5 := Lib.hid hg5; clear ho5 hg5 hlook; obtain ⟨n0', n1', n2', nl'⟩ := ent_facts ((Boxes3.wr HB.out (Wr.grown (p := fun k => k = mp) (.of_fresh HFC.out) HG5.out (fun g e => .inl (by injection e with e; exact e.symm))) (fun k hk e => by have := HMLT.out; omega)).2.1); clear n0 n1 n2 nl)
  have HGD : Hid (Wr (fun k => k = mp) w0 wd) := Wr.grown (p := fun k => k = mp) (.of_fresh HFC.out) HG5.out (fun g e => .inl (by injection e with e; exact e.symm))
  have HRD : Hid (Rdr wd b R line) := (H.out.move HB.out.fr).keep HGD.out (fun k hk e => by have := HMB.out; omega)
  have HSD : Hid (v.seenIs wd mp (k + 1) (L ++ [tx key])) := ⟨_, HO5.out, fun s => v.seen_put HO.out.isMap HD.out (tx key) (by omega) s⟩
  have KB := HB.out.wr HGD.out (fun k hk e => by have := HMLT.out; omega)
  have HGW : Hid (Wr (fun k => k = b ∨ k = mp) w wd) := (Wr.of_fresh HB.out.fr).trans (HGD.out.mono fun i e => .inr e)
  have HPL := Lib.hid KB.1
  have HEN := Lib.hid KB.2.1
  have HPB := Lib.hid KB.2.2
  clear KB HO HD HO5 HG5 HGD HSC HFC HR HM n0' n1' n2' nl'
  have HS3 : Hid (∀ w' : World, Wr (fun k => (k = b ∨ k = mp) ∨ k = sz + 2) wd w' → (w'.cell? ⟨sz + 1, 0, none⟩ = some (.string (tx key)) ∧ w'.cell? ⟨sz, 1, none⟩ = some (.int .i64 (ind : Int)) ∧ w'.cell? ⟨sz, 2, none⟩ = some (.int .i64 (ins : Int)))) := fun w' f => by
    have N := ent_facts (f.at (by have := HLT.out; have := HMLT.out; omega) HEN.out)
    have P := place_facts (f.at (by have := HLT.out; have := HMLT.out; omega) HPL.out)
    exact ⟨N.n0, P.p1, P.p2⟩
  obtain ⟨z0, z1, z2⟩ := HS3.out wd (Wr.refl _ _)
  have HRDD : Hid (Rdr wd.drew b R line) := HRD.out.move (Fresh.refl wd).drew
  have HGWD : Hid (Wr (fun k => k = b ∨ k = mp) w wd.drew) := HGW.out.drew
  have HPL0 := v.lt_of_at HPB.out
  have HPBL : Hid (sz + 2 < wd.heap.size) := HPL0
  clear HPL0
  have HDD : Hid (Wr (fun k => k = b ∨ k = mp) wd wd.drew) := (Wr.refl _ wd).drew
  have hwrap : IntKind.i64.wrap ((ins : Int) + 1) = (ins : Int) + 1 := IntWalk.i64_in _ (by omega)
  have HQ2 : Hid (∀ W : World, Wr (fun k => k = b ∨ k = mp) w W → Rdr W b R line → Calls Tryz.prog 55 #[.pointer (some ⟨b, 0, none⟩), .int .i64 (ind : Int), .int .i64 ((ins : Int) + 1)] W (BlkP W b x R')) := fun W f hr => (HQ.out W f hr).mono fun e w' k => blkP k
  clear HQ
  have HS5 : Hid (∀ W1 : World, Wr (fun k => k = b ∨ k = mp) wd W1 → ∀ u0 u1 u2 u3 u4 u5 u6 : Value, ((((((((W1.setCell ⟨sz + 1 + 1, 0, none⟩ u0).setCell ⟨sz + 1 + 1, 1, none⟩ u1).setCell ⟨sz + 1 + 1, 2, none⟩ u2).setCell ⟨sz + 1 + 1, 3, none⟩ u3).setCell ⟨sz + 1 + 1, 4, none⟩ u4).setCell ⟨sz + 1 + 1, 5, none⟩ u5).setCell ⟨sz + 1 + 1, 6, none⟩ u6).cell? ⟨sz + 1, 0, none⟩ = some (.string (tx key)) ∧ (((((((W1.setCell ⟨sz + 1 + 1, 0, none⟩ u0).setCell ⟨sz + 1 + 1, 1, none⟩ u1).setCell ⟨sz + 1 + 1, 2, none⟩ u2).setCell ⟨sz + 1 + 1, 3, none⟩ u3).setCell ⟨sz + 1 + 1, 4, none⟩ u4).setCell ⟨sz + 1 + 1, 5, none⟩ u5).setCell ⟨sz + 1 + 1, 6, none⟩ u6).cell? ⟨sz, 1, none⟩ = some (.int .i64 (ind : Int)) ∧ (((((((W1.setCell ⟨sz + 1 + 1, 0, none⟩ u0).setCell ⟨sz + 1 + 1, 1, none⟩ u1).setCell ⟨sz + 1 + 1, 2, none⟩ u2).setCell ⟨sz + 1 + 1, 3, none⟩ u3).setCell ⟨sz + 1 + 1, 4, none⟩ u4).setCell ⟨sz + 1 + 1, 5, none⟩ u5).setCell ⟨sz + 1 + 1, 6, none⟩ u6).cell? ⟨sz, 2, none⟩ = some (.int .i64 (ins : Int)))) := fun W1 f u0 u1 u2 u3 u4 u5 u6 =>
    HS3.out _ ((f.mono (q := fun k => (k = b ∨ k = mp) ∨ k = sz + 2) fun i e => Or.inl e).set7 (g := sz + 1 + 1) (.inl (.inr rfl)) u0 u1 u2 u3 u4 u5 u6)
  go_wp2_with fail
  go_region_held (fun w' => (w'.cell? ⟨sz + 1, 0, none⟩ = some (.string (tx key)) ∧ w'.cell? ⟨sz, 1, none⟩ = some (.int .i64 (ind : Int)) ∧ w'.cell? ⟨sz, 2, none⟩ = some (.int .i64 (ins : Int)))) (first | (go_keep; done) | exact HS5.out _ HF2.out _ _ _ _ _ _ _)
    (first
      | (go_at_call 55; (with_reducible refine (HQ2.out _ HGWD.out HRDD.out).mono ?_); rintro e W1 (⟨er, hx, rfl, hf1⟩ | ⟨y, mk, mf, mn, ms, mla, mlc, ml, mka, mkc, mks, rfl, hy, hf1⟩); exact ⟨rfl, by rw [hx]; exact ⟨rfl, HGWD.out.trans (hf1.mono fun i e => .inl e)⟩⟩; have HF1 := Lib.hid hf1; have HY := Lib.hid hy; have HF2 : Hid (Wr (fun k => k = b ∨ k = mp) wd W1) := HDD.out.trans (hf1.mono fun i e => .inl e); obtain ⟨y0, y1, y2⟩ := HS3.out W1 (HF2.out.mono fun i e => .inl e); obtain ⟨c0, c1, c2, c3, c4, c5, c6, f, lt⟩ := pb_facts (g := sz + 1 + 1) (HF2.out.at (by have := HLT.out; have := HMLT.out; omega) HPB.out); have f0 := f 0; have f1 := f 1; have f2 := f 2; have f3 := f 3; have f4 := f 4; have f5 := f 5; have f6 := f 6; clear hf1 hy f))
  go_wp2
  obtain ⟨hx, hpl, hnw, line', hrl⟩ := HY.out
  refine bodyPost_ret (v := .agg #[.string (tx key), .int .i64 mk, .bool mf, .int .i64 mn, .string ms, .slice mla ml.length mlc, .slice mka mks.length mkc]) (by simp [results, Tryz.results116, go_sem, *]) rfl ?_
  rw [hx]
  exact pair_close (m := v.M.mk mk mf mn ms mla mlc ml mka mkc mks) HLT.out HMLT.out HSZ.out HGWD.out HPBL.out hpl hnw hrl (seen_wr (w := wd.drew) HSD.out HF1.out (by have := HMB.out; omega)) (HF1.out.mono fun i e => .inl e) _ _ _ _ _ _ _
set_option maxRecDepth 100000 in
set_option maxHeartbeats 4000000 in
theorem pair_behind_q (b mp : Nat) (R : List Rw) (line ind ins : Nat) (ar : Int) (d : Bool) (key bh : List UInt8) (w : World) (h : Rdr w b R line) (hk : key.length ≤ 100000) (k : Nat) (L : List ByteArray) (hs : v.seenIs w mp k L) (hk1 : k ≤ 1000000) (hmb : b < mp) (hi : ins < 32) (hl : ¬ 4096 < key.length) (hm : v.inB (tx key) L = false)
    (x : Res) (R' : List Rw) (he : bh ≠ []) (hq : ∀ W : World, Wr (fun k => k = b ∨ k = mp) w W → Rdr W b R line → Calls Tryz.prog 117 #[.pointer (some ⟨b, 0, none⟩), .string (tx bh), .int .i64 ((ins : Int) + 1)] W (BlkIs W b x R')) :
    Calls Tryz.prog 116 #[.pointer (some ⟨b, 0, none⟩), placeV ar ind ins d, entV ⟨key, true, bh⟩, .map (some mp)] w (PairIs w b mp k L key (withRows x R')) := by
  have H := Lib.hid h
  have HS := Lib.hid hs
  have HQ := Lib.hid hq
  have HLT := Lib.hid h.lt
  have HMLT := Lib.hid hs.lt
  have HMB := Lib.hid hmb
  have HK1 := Lib.hid hk1
  have HB := Lib.hid (boxes3_new w ar ind ins d ⟨key, true, bh⟩)
  have g1 : ¬ 4096 < (tx key).size := by rw [tx_size]; exact hl
  have g2 : (tx key).size ≤ 100000 := by rw [tx_size]; exact hk
  have HM := Lib.hid hm
  have e1 : (tx bh).toList.isEmpty = false := by rw [tx_list]; cases bh with | nil => exact absurd rfl he | cons c r => rfl
  clear h hk hl hs hm hq hmb hk1 he
  unfold placeV entV
  dsimp only
  go_enter Tryz.func116, Tryz.ntmps116
  go_upto_region 1 with (fail)
  generalize ((w.alloc (placeO ar ind ins d)).alloc (entO ⟨key, true, bh⟩)).alloc (.cells pcellZ 54 (0, 0)) = w0 at *
  generalize hsz : w.heap.size = sz at *
  have HSZ := Lib.hid hsz
  clear hsz
  have HFC : Hid (Fresh w0 w0) := Fresh.refl w0
  obtain ⟨n0, n1, n2, nl⟩ := ent_facts HB.out.en
  have HR : Hid (Rdr w0 b R line) := H.out.move (HB.out.fr.trans HFC.out)
  have HSC : Hid (v.seenIs w0 mp k L) := seen_wr HS.out (p := fun _ => False) (.of_fresh (HB.out.fr.trans HFC.out)) id
  have hlook := HSC.out.look (tx key) (by omega)
  rw [HM.out] at hlook
  obtain ⟨D, hown, hD⟩ := HSC.out
  have HO := Lib.hid hown
  have HD := Lib.hid hD
  clear hown hD
  go_wp2_with (at_mapUpdate; refine wpList_mapUpdate_own _ rfl _ _ _ 165 rfl 9 4 v.law9 Tryz.underlying165 v.boolR mp k D rfl HO.out (by have := HK1.out; unfold maxLen; omega) _ _ _ rfl rfl (v.key_of (tx key) (by omega)) _ [] rfl ?_; intro wd ho5 hg5; have HO5 := Lib.hid ho5; have HG5 := Lib.hid hg5; clear ho5 hg5 hlook; obtain ⟨n0', n1', n2', nl'⟩ := ent_facts ((Boxes3.wr HB.out (Wr.grown (p := fun k => k = mp) (.of_fresh HFC.out) HG5.out (fun g e => .inl (by injection e with e; exact e.symm))) (fun k hk e => by have := HMLT.out; omega)).2.1); clear n0 n1 n2 nl)
  have HGD : Hid (Wr (fun k => k = mp) w0 wd) := Wr.grown (p := fun k => k = mp) (.of_fresh HFC.out) HG5.out (fun g e => .inl (by injection e with e; exact e.symm))
  have HRD : Hid (Rdr wd b R line) := (H.out.move HB.out.fr).keep HGD.out (fun k hk e => by have := HMB.out; omega)
  have HSD : Hid (v.seenIs wd mp (k + 1) (L ++ [tx key])) := ⟨_, HO5.out, fun s => v.seen_put HO.out.isMap HD.out (tx key) (by omega) s⟩
  have KB := HB.out.wr HGD.out (fun k hk e => by have := HMLT.out; omega)
  have HGW : Hid (Wr (fun k => k = b ∨ k = mp) w wd) := (Wr.of_fresh HB.out.fr).trans (HGD.out.mono fun i e => .inr e)
  have HPL := Lib.hid KB.1
  have HEN := Lib.hid KB.2.1
  have HPB := Lib.hid KB.2.2
  clear KB HO HD HO5 HG5 HGD HSC HFC HR HM n0' n1' n2' nl'
  have HS3 : Hid (∀ w' : World, Wr (fun k => (k = b ∨ k = mp) ∨ k = sz + 2) wd w' → (w'.cell? ⟨sz + 1, 0, none⟩ = some (.string (tx key)) ∧ w'.cell? ⟨sz + 1, 2, none⟩ = some (.string (tx bh)) ∧ w'.cell? ⟨sz, 2, none⟩ = some (.int .i64 (ins : Int)))) := fun w' f => by
    have N := ent_facts (f.at (by have := HLT.out; have := HMLT.out; omega) HEN.out)
    have P := place_facts (f.at (by have := HLT.out; have := HMLT.out; omega) HPL.out)
    exact ⟨N.n0, N.n2, P.p2⟩
  obtain ⟨z0, z1, z2⟩ := HS3.out wd (Wr.refl _ _)
  have HRDD : Hid (Rdr wd.drew b R line) := HRD.out.move (Fresh.refl wd).drew
  have HGWD : Hid (Wr (fun k => k = b ∨ k = mp) w wd.drew) := HGW.out.drew
  have HPL0 := v.lt_of_at HPB.out
  have HPBL : Hid (sz + 2 < wd.heap.size) := HPL0
  clear HPL0
  have HDD : Hid (Wr (fun k => k = b ∨ k = mp) wd wd.drew) := (Wr.refl _ wd).drew
  have hwrap : IntKind.i64.wrap ((ins : Int) + 1) = (ins : Int) + 1 := IntWalk.i64_in _ (by omega)
  have HQ2 : Hid (∀ W : World, Wr (fun k => k = b ∨ k = mp) w W → Rdr W b R line → Calls Tryz.prog 117 #[.pointer (some ⟨b, 0, none⟩), .string (tx bh), .int .i64 ((ins : Int) + 1)] W (BlkP W b x R')) := fun W f hr => (HQ.out W f hr).mono fun e w' k => blkP k
  clear HQ
  have HS5 : Hid (∀ W1 : World, Wr (fun k => k = b ∨ k = mp) wd W1 → ∀ u0 u1 u2 u3 u4 u5 u6 : Value, ((((((((W1.setCell ⟨sz + 1 + 1, 0, none⟩ u0).setCell ⟨sz + 1 + 1, 1, none⟩ u1).setCell ⟨sz + 1 + 1, 2, none⟩ u2).setCell ⟨sz + 1 + 1, 3, none⟩ u3).setCell ⟨sz + 1 + 1, 4, none⟩ u4).setCell ⟨sz + 1 + 1, 5, none⟩ u5).setCell ⟨sz + 1 + 1, 6, none⟩ u6).cell? ⟨sz + 1, 0, none⟩ = some (.string (tx key)) ∧ (((((((W1.setCell ⟨sz + 1 + 1, 0, none⟩ u0).setCell ⟨sz + 1 + 1, 1, none⟩ u1).setCell ⟨sz + 1 + 1, 2, none⟩ u2).setCell ⟨sz + 1 + 1, 3, none⟩ u3).setCell ⟨sz + 1 + 1, 4, none⟩ u4).setCell ⟨sz + 1 + 1, 5, none⟩ u5).setCell ⟨sz + 1 + 1, 6, none⟩ u6).cell? ⟨sz + 1, 2, none⟩ = some (.string (tx bh)) ∧ (((((((W1.setCell ⟨sz + 1 + 1, 0, none⟩ u0).setCell ⟨sz + 1 + 1, 1, none⟩ u1).setCell ⟨sz + 1 + 1, 2, none⟩ u2).setCell ⟨sz + 1 + 1, 3, none⟩ u3).setCell ⟨sz + 1 + 1, 4, none⟩ u4).setCell ⟨sz + 1 + 1, 5, none⟩ u5).setCell ⟨sz + 1 + 1, 6, none⟩ u6).cell? ⟨sz, 2, none⟩ = some (.int .i64 (ins : Int)))) := fun W1 f u0 u1 u2 u3 u4 u5 u6 =>
    HS3.out _ ((f.mono (q := fun k => (k = b ∨ k = mp) ∨ k = sz + 2) fun i e => Or.inl e).set7 (g := sz + 1 + 1) (.inl (.inr rfl)) u0 u1 u2 u3 u4 u5 u6)
  go_wp2_with fail
  go_region_held (fun w' => (w'.cell? ⟨sz + 1, 0, none⟩ = some (.string (tx key)) ∧ w'.cell? ⟨sz + 1, 2, none⟩ = some (.string (tx bh)) ∧ w'.cell? ⟨sz, 2, none⟩ = some (.int .i64 (ins : Int)))) (first | (go_keep; done) | exact HS5.out _ HF2.out _ _ _ _ _ _ _)
    (first
      | (go_at_call 117; (with_reducible refine (HQ2.out _ HGWD.out HRDD.out).mono ?_); rintro e W1 (⟨er, hx, rfl, hf1⟩ | ⟨y, mk, mf, mn, ms, mla, mlc, ml, mka, mkc, mks, rfl, hy, hf1⟩); exact ⟨rfl, by rw [hx]; exact ⟨rfl, HGWD.out.trans (hf1.mono fun i e => .inl e)⟩⟩; have HF1 := Lib.hid hf1; have HY := Lib.hid hy; have HF2 : Hid (Wr (fun k => k = b ∨ k = mp) wd W1) := HDD.out.trans (hf1.mono fun i e => .inl e); obtain ⟨y0, y1, y2⟩ := HS3.out W1 (HF2.out.mono fun i e => .inl e); obtain ⟨c0, c1, c2, c3, c4, c5, c6, f, lt⟩ := pb_facts (g := sz + 1 + 1) (HF2.out.at (by have := HLT.out; have := HMLT.out; omega) HPB.out); have f0 := f 0; have f1 := f 1; have f2 := f 2; have f3 := f 3; have f4 := f 4; have f5 := f 5; have f6 := f 6; clear hf1 hy f))
  go_wp2
  obtain ⟨hx, hpl, hnw, line', hrl⟩ := HY.out
  refine bodyPost_ret (v := .agg #[.string (tx key), .int .i64 mk, .bool mf, .int .i64 mn, .string ms, .slice mla ml.length mlc, .slice mka mks.length mkc]) (by simp [results, Tryz.results116, go_sem, *]) rfl ?_
  rw [hx]
  exact pair_close (m := v.M.mk mk mf mn ms mla mlc ml mka mkc mks) HLT.out HMLT.out HSZ.out HGWD.out HPBL.out hpl hnw hrl (seen_wr (w := wd.drew) HSD.out HF1.out (by have := HMB.out; omega)) (HF1.out.mono fun i e => .inl e) _ _ _ _ _ _ _
set_option maxRecDepth 100000 in
set_option maxHeartbeats 1000000 in
theorem pair_long_p (b mp : Nat) (R : List Rw) (line ind ins : Nat) (ar : Int) (d : Bool) (key bh : List UInt8) (w : World) (h : Rdr w b R line) (hk : key.length ≤ 100000) (hkey : keyB key = true) (hl : 4096 < key.length) :
    Calls Tryz.prog 116 #[.pointer (some ⟨b, 0, none⟩), placeV ar ind ins d, entV ⟨key, false, bh⟩, .map (some mp)] w fun e w' => Panics line 2 e ∧ Fresh w w' := by
  have HW : Hid (∀ (x : Int) (W : World), Rdr W b R line → Calls Tryz.prog 54 #[.pointer (some ⟨b, 0, none⟩), .int .i64 x] W fun e w' => e = .returned (misV line x) ∧ Fresh W w') := fun x W hW => wrong_any b R line x W hW
  have H := Lib.hid h
  have HB := Lib.hid (boxes3_new w ar ind ins d ⟨key, false, bh⟩)
  have g1 : 4096 < (tx key).size := by rw [tx_size]; exact hl
  have g2 : (tx key).size ≤ 100000 := by rw [tx_size]; exact hk
  have HKY : Hid (∀ W : World, Calls Tryz.prog 12 #[.string (tx key)] W fun e w' => e = .returned (.bool true) ∧ Fresh W w') := fun W => by
    have := key_any key W (by omega)
    rw [hkey] at this
    exact this
  clear h hk hkey hl
  unfold placeV entV
  dsimp only
  go_enter Tryz.func116, Tryz.ntmps116
  go_upto_region 1 with (fail)
  generalize ((w.alloc (placeO ar ind ins d)).alloc (entO ⟨key, false, bh⟩)).alloc (.cells pcellZ 54 (0, 0)) = w0 at *
  generalize w.heap.size = sz at *
  obtain ⟨m0, m1, m2, ml⟩ := ent_facts HB.out.en
  go_wp2_with fail
  refine (HKY.out _).mono ?_
  rintro e wc ⟨rfl, hf⟩
  have HFC : Hid (Fresh w0 wc) := hf
  obtain ⟨n0, n1, n2, nl⟩ := ent_facts (v.Fresh.at hf HB.out.en)
  clear hf m0 m1 m2 ml HKY
  have HR : Hid (Rdr wc b R line) := H.out.move (HB.out.fr.trans HFC.out)
  go_wp2_with (go_at_call 54; refine (HW.out _ _ HR.out).mono ?_; rintro e w2 ⟨rfl, hf⟩; have HF2 := Lib.hid hf; clear hf)
  exact ⟨rfl, rfl, (HB.out.fr.trans HFC.out).trans HF2.out⟩
set_option maxRecDepth 100000 in
set_option maxHeartbeats 1000000 in
theorem pair_twice_p (b mp : Nat) (R : List Rw) (line ind ins : Nat) (ar : Int) (d : Bool) (key bh : List UInt8) (w : World) (h : Rdr w b R line) (hk : key.length ≤ 100000) (hkey : keyB key = true) (k : Nat) (L : List ByteArray) (hs : v.seenIs w mp k L) (hl : ¬ 4096 < key.length) (hm : v.inB (tx key) L = true) :
    Calls Tryz.prog 116 #[.pointer (some ⟨b, 0, none⟩), placeV ar ind ins d, entV ⟨key, false, bh⟩, .map (some mp)] w fun e w' => Panics line 8 e ∧ Fresh w w' := by
  have HW : Hid (∀ (x : Int) (W : World), Rdr W b R line → Calls Tryz.prog 54 #[.pointer (some ⟨b, 0, none⟩), .int .i64 x] W fun e w' => e = .returned (misV line x) ∧ Fresh W w') := fun x W hW => wrong_any b R line x W hW
  have H := Lib.hid h
  have HS := Lib.hid hs
  have HB := Lib.hid (boxes3_new w ar ind ins d ⟨key, false, bh⟩)
  have g1 : ¬ 4096 < (tx key).size := by rw [tx_size]; exact hl
  have g2 : (tx key).size ≤ 100000 := by rw [tx_size]; exact hk
  have HM := Lib.hid hm
  have HKY : Hid (∀ W : World, Calls Tryz.prog 12 #[.string (tx key)] W fun e w' => e = .returned (.bool true) ∧ Fresh W w') := fun W => by
    have := key_any key W (by omega)
    rw [hkey] at this
    exact this
  clear h hk hkey hl hs hm
  unfold placeV entV
  dsimp only
  go_enter Tryz.func116, Tryz.ntmps116
  go_upto_region 1 with (fail)
  generalize ((w.alloc (placeO ar ind ins d)).alloc (entO ⟨key, false, bh⟩)).alloc (.cells pcellZ 54 (0, 0)) = w0 at *
  generalize w.heap.size = sz at *
  obtain ⟨m0, m1, m2, ml⟩ := ent_facts HB.out.en
  go_wp2_with fail
  refine (HKY.out _).mono ?_
  rintro e wc ⟨rfl, hf⟩
  have HFC : Hid (Fresh w0 wc) := hf
  obtain ⟨n0, n1, n2, nl⟩ := ent_facts (v.Fresh.at hf HB.out.en)
  clear hf m0 m1 m2 ml HKY
  have HR : Hid (Rdr wc b R line) := H.out.move (HB.out.fr.trans HFC.out)
  have hlook := (seen_wr HS.out (p := fun _ => False) (.of_fresh (HB.out.fr.trans HFC.out)) id).look (tx key) (by omega)
  rw [HM.out] at hlook
  go_wp2_with (go_at_call 54; refine (HW.out _ _ HR.out).mono ?_; rintro e w2 ⟨rfl, hf⟩; have HF2 := Lib.hid hf; clear hf)
  exact ⟨rfl, rfl, (HB.out.fr.trans HFC.out).trans HF2.out⟩
set_option maxRecDepth 100000 in
set_option maxHeartbeats 4000000 in
theorem pair_below_p (b mp : Nat) (R : List Rw) (line ind ins : Nat) (ar : Int) (d : Bool) (key bh : List UInt8) (w : World) (h : Rdr w b R line) (hk : key.length ≤ 100000) (hkey : keyB key = true) (k : Nat) (L : List ByteArray) (hs : v.seenIs w mp k L) (hk1 : k ≤ 1000000) (hmb : b < mp) (hi : ins < 32) (hl : ¬ 4096 < key.length) (hm : v.inB (tx key) L = false)
    (x : Res) (R' : List Rw) (he : bh = []) (hq : ∀ W : World, Wr (fun k => k = b ∨ k = mp) w W → Rdr W b R line → Calls Tryz.prog 55 #[.pointer (some ⟨b, 0, none⟩), .int .i64 (ind : Int), .int .i64 ((ins : Int) + 1)] W (BlkIs W b x R')) :
    Calls Tryz.prog 116 #[.pointer (some ⟨b, 0, none⟩), placeV ar ind ins d, entV ⟨key, false, bh⟩, .map (some mp)] w (PairIs w b mp k L key (withRows x R')) := by
  have H := Lib.hid h
  have HS := Lib.hid hs
  have HQ := Lib.hid hq
  have HLT := Lib.hid h.lt
  have HMLT := Lib.hid hs.lt
  have HMB := Lib.hid hmb
  have HK1 := Lib.hid hk1
  have HB := Lib.hid (boxes3_new w ar ind ins d ⟨key, false, bh⟩)
  have g1 : ¬ 4096 < (tx key).size := by rw [tx_size]; exact hl
  have g2 : (tx key).size ≤ 100000 := by rw [tx_size]; exact hk
  have HM := Lib.hid hm
  have e1 : (tx bh).toList.isEmpty = true := by rw [tx_list, he]; rfl
  have HKY : Hid (∀ W : World, Calls Tryz.prog 12 #[.string (tx key)] W fun e w' => e = .returned (.bool true) ∧ Fresh W w') := fun W => by
    have := key_any key W (by omega)
    rw [hkey] at this
    exact this
  clear h hk hkey hl hs hm hq hmb hk1 he
  unfold placeV entV
  dsimp only
  go_enter Tryz.func116, Tryz.ntmps116
  go_upto_region 1 with (fail)
  generalize ((w.alloc (placeO ar ind ins d)).alloc (entO ⟨key, false, bh⟩)).alloc (.cells pcellZ 54 (0, 0)) = w0 at *
  generalize hsz : w.heap.size = sz at *
  have HSZ := Lib.hid hsz
  clear hsz
  obtain ⟨m0, m1, m2, ml⟩ := ent_facts HB.out.en
  go_wp2_with fail
  refine (HKY.out _).mono ?_
  rintro e wc ⟨rfl, hf⟩
  have HFC : Hid (Fresh w0 wc) := hf
  obtain ⟨n0, n1, n2, nl⟩ := ent_facts (v.Fresh.at hf HB.out.en)
  clear hf m0 m1 m2 ml HKY
  have HR : Hid (Rdr wc b R line) := H.out.move (HB.out.fr.trans HFC.out)
  have HSC : Hid (v.seenIs wc mp k L) := seen_wr HS.out (p := fun _ => False) (.of_fresh (HB.out.fr.trans HFC.out)) id
  have hlook := HSC.out.look (tx key) (by omega)
  rw [HM.out] at hlook
  obtain ⟨D, hown, hD⟩ := HSC.out
  have HO := Lib.hid hown
  have HD := Lib.hid hD
  clear hown hD
  go_wp2_with (at_mapUpdate; refine wpList_mapUpdate_own _ rfl _ _ _ 165 rfl 9 4 v.law9 Tryz.underlying165 v.boolR mp k D rfl HO.out (by have := HK1.out; unfold maxLen; omega) _ _ _ rfl rfl (v.key_of (tx key) (by omega)) _ [] rfl ?_; intro wd ho5 hg5; have HO5 := Lib.hid ho5; have HG5 := Lib.hid hg5; clear ho5 hg5 hlook; obtain ⟨n0', n1', n2', nl'⟩ := ent_facts ((Boxes3.wr HB.out (Wr.grown (p := fun k => k = mp) (.of_fresh HFC.out) HG5.out (fun g e => .inl (by injection e with e; exact e.symm))) (fun k hk e => by have := HMLT.out; omega)).2.1); clear n0 n1 n2 nl)
  have HGD : Hid (Wr (fun k => k = mp) w0 wd) := Wr.grown (p := fun k => k = mp) (.of_fresh HFC.out) HG5.out (fun g e => .inl (by injection e with e; exact e.symm))
  have HRD : Hid (Rdr wd b R line) := (H.out.move HB.out.fr).keep HGD.out (fun k hk e => by have := HMB.out; omega)
  have HSD : Hid (v.seenIs wd mp (k + 1) (L ++ [tx key])) := ⟨_, HO5.out, fun s => v.seen_put HO.out.isMap HD.out (tx key) (by omega) s⟩
  have KB := HB.out.wr HGD.out (fun k hk e => by have := HMLT.out; omega)
  have HGW : Hid (Wr (fun k => k = b ∨ k = mp) w wd) := (Wr.of_fresh HB.out.fr).trans (HGD.out.mono fun i e => .inr e)
  have HPL := Lib.hid KB.1
  have HEN := Lib.hid KB.2.1
  have HPB := Lib.hid KB.2.2
  clear KB HO HD HO5 HG5 HGD HSC HFC HR HM n0' n1' n2' nl'
  have HS3 : Hid (∀ w' : World, Wr (fun k => (k = b ∨ k = mp) ∨ k = sz + 2) wd w' → (w'.cell? ⟨sz + 1, 0, none⟩ = some (.string (tx key)) ∧ w'.cell? ⟨sz, 1, none⟩ = some (.int .i64 (ind : Int)) ∧ w'.cell? ⟨sz, 2, none⟩ = some (.int .i64 (ins : Int)))) := fun w' f => by
    have N := ent_facts (f.at (by have := HLT.out; have := HMLT.out; omega) HEN.out)
    have P := place_facts (f.at (by have := HLT.out; have := HMLT.out; omega) HPL.out)
    exact ⟨N.n0, P.p1, P.p2⟩
  obtain ⟨z0, z1, z2⟩ := HS3.out wd (Wr.refl _ _)
  have HRDD : Hid (Rdr wd.drew b R line) := HRD.out.move (Fresh.refl wd).drew
  have HGWD : Hid (Wr (fun k => k = b ∨ k = mp) w wd.drew) := HGW.out.drew
  have HPL0 := v.lt_of_at HPB.out
  have HPBL : Hid (sz + 2 < wd.heap.size) := HPL0
  clear HPL0
  have HDD : Hid (Wr (fun k => k = b ∨ k = mp) wd wd.drew) := (Wr.refl _ wd).drew
  have hwrap : IntKind.i64.wrap ((ins : Int) + 1) = (ins : Int) + 1 := IntWalk.i64_in _ (by omega)
  have HQ2 : Hid (∀ W : World, Wr (fun k => k = b ∨ k = mp) w W → Rdr W b R line → Calls Tryz.prog 55 #[.pointer (some ⟨b, 0, none⟩), .int .i64 (ind : Int), .int .i64 ((ins : Int) + 1)] W (BlkP W b x R')) := fun W f hr => (HQ.out W f hr).mono fun e w' k => blkP k
  clear HQ
  have HS5 : Hid (∀ W1 : World, Wr (fun k => k = b ∨ k = mp) wd W1 → ∀ u0 u1 u2 u3 u4 u5 u6 : Value, ((((((((W1.setCell ⟨sz + 1 + 1, 0, none⟩ u0).setCell ⟨sz + 1 + 1, 1, none⟩ u1).setCell ⟨sz + 1 + 1, 2, none⟩ u2).setCell ⟨sz + 1 + 1, 3, none⟩ u3).setCell ⟨sz + 1 + 1, 4, none⟩ u4).setCell ⟨sz + 1 + 1, 5, none⟩ u5).setCell ⟨sz + 1 + 1, 6, none⟩ u6).cell? ⟨sz + 1, 0, none⟩ = some (.string (tx key)) ∧ (((((((W1.setCell ⟨sz + 1 + 1, 0, none⟩ u0).setCell ⟨sz + 1 + 1, 1, none⟩ u1).setCell ⟨sz + 1 + 1, 2, none⟩ u2).setCell ⟨sz + 1 + 1, 3, none⟩ u3).setCell ⟨sz + 1 + 1, 4, none⟩ u4).setCell ⟨sz + 1 + 1, 5, none⟩ u5).setCell ⟨sz + 1 + 1, 6, none⟩ u6).cell? ⟨sz, 1, none⟩ = some (.int .i64 (ind : Int)) ∧ (((((((W1.setCell ⟨sz + 1 + 1, 0, none⟩ u0).setCell ⟨sz + 1 + 1, 1, none⟩ u1).setCell ⟨sz + 1 + 1, 2, none⟩ u2).setCell ⟨sz + 1 + 1, 3, none⟩ u3).setCell ⟨sz + 1 + 1, 4, none⟩ u4).setCell ⟨sz + 1 + 1, 5, none⟩ u5).setCell ⟨sz + 1 + 1, 6, none⟩ u6).cell? ⟨sz, 2, none⟩ = some (.int .i64 (ins : Int)))) := fun W1 f u0 u1 u2 u3 u4 u5 u6 =>
    HS3.out _ ((f.mono (q := fun k => (k = b ∨ k = mp) ∨ k = sz + 2) fun i e => Or.inl e).set7 (g := sz + 1 + 1) (.inl (.inr rfl)) u0 u1 u2 u3 u4 u5 u6)
  go_wp2_with fail
  go_region_held (fun w' => (w'.cell? ⟨sz + 1, 0, none⟩ = some (.string (tx key)) ∧ w'.cell? ⟨sz, 1, none⟩ = some (.int .i64 (ind : Int)) ∧ w'.cell? ⟨sz, 2, none⟩ = some (.int .i64 (ins : Int)))) (first | (go_keep; done) | exact HS5.out _ HF2.out _ _ _ _ _ _ _)
    (first
      | (go_at_call 55; (with_reducible refine (HQ2.out _ HGWD.out HRDD.out).mono ?_); rintro e W1 (⟨er, hx, rfl, hf1⟩ | ⟨y, mk, mf, mn, ms, mla, mlc, ml, mka, mkc, mks, rfl, hy, hf1⟩); exact ⟨rfl, by rw [hx]; exact ⟨rfl, HGWD.out.trans (hf1.mono fun i e => .inl e)⟩⟩; have HF1 := Lib.hid hf1; have HY := Lib.hid hy; have HF2 : Hid (Wr (fun k => k = b ∨ k = mp) wd W1) := HDD.out.trans (hf1.mono fun i e => .inl e); obtain ⟨y0, y1, y2⟩ := HS3.out W1 (HF2.out.mono fun i e => .inl e); obtain ⟨c0, c1, c2, c3, c4, c5, c6, f, lt⟩ := pb_facts (g := sz + 1 + 1) (HF2.out.at (by have := HLT.out; have := HMLT.out; omega) HPB.out); have f0 := f 0; have f1 := f 1; have f2 := f 2; have f3 := f 3; have f4 := f 4; have f5 := f 5; have f6 := f 6; clear hf1 hy f))
  go_wp2
  obtain ⟨hx, hpl, hnw, line', hrl⟩ := HY.out
  refine bodyPost_ret (v := .agg #[.string (tx key), .int .i64 mk, .bool mf, .int .i64 mn, .string ms, .slice mla ml.length mlc, .slice mka mks.length mkc]) (by simp [results, Tryz.results116, go_sem, *]) rfl ?_
  rw [hx]
  exact pair_close (m := v.M.mk mk mf mn ms mla mlc ml mka mkc mks) HLT.out HMLT.out HSZ.out HGWD.out HPBL.out hpl hnw hrl (seen_wr (w := wd.drew) HSD.out HF1.out (by have := HMB.out; omega)) (HF1.out.mono fun i e => .inl e) _ _ _ _ _ _ _
set_option maxRecDepth 100000 in
set_option maxHeartbeats 4000000 in
theorem pair_behind_p (b mp : Nat) (R : List Rw) (line ind ins : Nat) (ar : Int) (d : Bool) (key bh : List UInt8) (w : World) (h : Rdr w b R line) (hk : key.length ≤ 100000) (hkey : keyB key = true) (k : Nat) (L : List ByteArray) (hs : v.seenIs w mp k L) (hk1 : k ≤ 1000000) (hmb : b < mp) (hi : ins < 32) (hl : ¬ 4096 < key.length) (hm : v.inB (tx key) L = false)
    (x : Res) (R' : List Rw) (he : bh ≠ []) (hq : ∀ W : World, Wr (fun k => k = b ∨ k = mp) w W → Rdr W b R line → Calls Tryz.prog 117 #[.pointer (some ⟨b, 0, none⟩), .string (tx bh), .int .i64 ((ins : Int) + 1)] W (BlkIs W b x R')) :
    Calls Tryz.prog 116 #[.pointer (some ⟨b, 0, none⟩), placeV ar ind ins d, entV ⟨key, false, bh⟩, .map (some mp)] w (PairIs w b mp k L key (withRows x R')) := by
  have H := Lib.hid h
  have HS := Lib.hid hs
  have HQ := Lib.hid hq
  have HLT := Lib.hid h.lt
  have HMLT := Lib.hid hs.lt
  have HMB := Lib.hid hmb
  have HK1 := Lib.hid hk1
  have HB := Lib.hid (boxes3_new w ar ind ins d ⟨key, false, bh⟩)
  have g1 : ¬ 4096 < (tx key).size := by rw [tx_size]; exact hl
  have g2 : (tx key).size ≤ 100000 := by rw [tx_size]; exact hk
  have HM := Lib.hid hm
  have e1 : (tx bh).toList.isEmpty = false := by rw [tx_list]; cases bh with | nil => exact absurd rfl he | cons c r => rfl
  have HKY : Hid (∀ W : World, Calls Tryz.prog 12 #[.string (tx key)] W fun e w' => e = .returned (.bool true) ∧ Fresh W w') := fun W => by
    have := key_any key W (by omega)
    rw [hkey] at this
    exact this
  clear h hk hkey hl hs hm hq hmb hk1 he
  unfold placeV entV
  dsimp only
  go_enter Tryz.func116, Tryz.ntmps116
  go_upto_region 1 with (fail)
  generalize ((w.alloc (placeO ar ind ins d)).alloc (entO ⟨key, false, bh⟩)).alloc (.cells pcellZ 54 (0, 0)) = w0 at *
  generalize hsz : w.heap.size = sz at *
  have HSZ := Lib.hid hsz
  clear hsz
  obtain ⟨m0, m1, m2, ml⟩ := ent_facts HB.out.en
  go_wp2_with fail
  refine (HKY.out _).mono ?_
  rintro e wc ⟨rfl, hf⟩
  have HFC : Hid (Fresh w0 wc) := hf
  obtain ⟨n0, n1, n2, nl⟩ := ent_facts (v.Fresh.at hf HB.out.en)
  clear hf m0 m1 m2 ml HKY
  have HR : Hid (Rdr wc b R line) := H.out.move (HB.out.fr.trans HFC.out)
  have HSC : Hid (v.seenIs wc mp k L) := seen_wr HS.out (p := fun _ => False) (.of_fresh (HB.out.fr.trans HFC.out)) id
  have hlook := HSC.out.look (tx key) (by omega)
  rw [HM.out] at hlook
  obtain ⟨D, hown, hD⟩ := HSC.out
  have HO := Lib.hid hown
  have HD := Lib.hid hD
  clear hown hD
  go_wp2_with (at_mapUpdate; refine wpList_mapUpdate_own _ rfl _ _ _ 165 rfl 9 4 v.law9 Tryz.underlying165 v.boolR mp k D rfl HO.out (by have := HK1.out; unfold maxLen; omega) _ _ _ rfl rfl (v.key_of (tx key) (by omega)) _ [] rfl ?_; intro wd ho5 hg5; have HO5 := Lib.hid ho5; have HG5 := Lib.hid hg5; clear ho5 hg5 hlook; obtain ⟨n0', n1', n2', nl'⟩ := ent_facts ((Boxes3.wr HB.out (Wr.grown (p := fun k => k = mp) (.of_fresh HFC.out) HG5.out (fun g e => .inl (by injection e with e; exact e.symm))) (fun k hk e => by have := HMLT.out; omega)).2.1); clear n0 n1 n2 nl)
  have HGD : Hid (Wr (fun k => k = mp) w0 wd) := Wr.grown (p := fun k => k = mp) (.of_fresh HFC.out) HG5.out (fun g e => .inl (by injection e with e; exact e.symm))
  have HRD : Hid (Rdr wd b R line) := (H.out.move HB.out.fr).keep HGD.out (fun k hk e => by have := HMB.out; omega)
  have HSD : Hid (v.seenIs wd mp (k + 1) (L ++ [tx key])) := ⟨_, HO5.out, fun s => v.seen_put HO.out.isMap HD.out (tx key) (by omega) s⟩
  have KB := HB.out.wr HGD.out (fun k hk e => by have := HMLT.out; omega)
  have HGW : Hid (Wr (fun k => k = b ∨ k = mp) w wd) := (Wr.of_fresh HB.out.fr).trans (HGD.out.mono fun i e => .inr e)
  have HPL := Lib.hid KB.1
  have HEN := Lib.hid KB.2.1
  have HPB := Lib.hid KB.2.2
  clear KB HO HD HO5 HG5 HGD HSC HFC HR HM n0' n1' n2' nl'
  have HS3 : Hid (∀ w' : World, Wr (fun k => (k = b ∨ k = mp) ∨ k = sz + 2) wd w' → (w'.cell? ⟨sz + 1, 0, none⟩ = some (.string (tx key)) ∧ w'.cell? ⟨sz + 1, 2, none⟩ = some (.string (tx bh)) ∧ w'.cell? ⟨sz, 2, none⟩ = some (.int .i64 (ins : Int)))) := fun w' f => by
    have N := ent_facts (f.at (by have := HLT.out; have := HMLT.out; omega) HEN.out)
    have P := place_facts (f.at (by have := HLT.out; have := HMLT.out; omega) HPL.out)
    exact ⟨N.n0, N.n2, P.p2⟩
  obtain ⟨z0, z1, z2⟩ := HS3.out wd (Wr.refl _ _)
  have HRDD : Hid (Rdr wd.drew b R line) := HRD.out.move (Fresh.refl wd).drew
  have HGWD : Hid (Wr (fun k => k = b ∨ k = mp) w wd.drew) := HGW.out.drew
  have HPL0 := v.lt_of_at HPB.out
  have HPBL : Hid (sz + 2 < wd.heap.size) := HPL0
  clear HPL0
  have HDD : Hid (Wr (fun k => k = b ∨ k = mp) wd wd.drew) := (Wr.refl _ wd).drew
  have hwrap : IntKind.i64.wrap ((ins : Int) + 1) = (ins : Int) + 1 := IntWalk.i64_in _ (by omega)
  have HQ2 : Hid (∀ W : World, Wr (fun k => k = b ∨ k = mp) w W → Rdr W b R line → Calls Tryz.prog 117 #[.pointer (some ⟨b, 0, none⟩), .string (tx bh), .int .i64 ((ins : Int) + 1)] W (BlkP W b x R')) := fun W f hr => (HQ.out W f hr).mono fun e w' k => blkP k
  clear HQ
  have HS5 : Hid (∀ W1 : World, Wr (fun k => k = b ∨ k = mp) wd W1 → ∀ u0 u1 u2 u3 u4 u5 u6 : Value, ((((((((W1.setCell ⟨sz + 1 + 1, 0, none⟩ u0).setCell ⟨sz + 1 + 1, 1, none⟩ u1).setCell ⟨sz + 1 + 1, 2, none⟩ u2).setCell ⟨sz + 1 + 1, 3, none⟩ u3).setCell ⟨sz + 1 + 1, 4, none⟩ u4).setCell ⟨sz + 1 + 1, 5, none⟩ u5).setCell ⟨sz + 1 + 1, 6, none⟩ u6).cell? ⟨sz + 1, 0, none⟩ = some (.string (tx key)) ∧ (((((((W1.setCell ⟨sz + 1 + 1, 0, none⟩ u0).setCell ⟨sz + 1 + 1, 1, none⟩ u1).setCell ⟨sz + 1 + 1, 2, none⟩ u2).setCell ⟨sz + 1 + 1, 3, none⟩ u3).setCell ⟨sz + 1 + 1, 4, none⟩ u4).setCell ⟨sz + 1 + 1, 5, none⟩ u5).setCell ⟨sz + 1 + 1, 6, none⟩ u6).cell? ⟨sz + 1, 2, none⟩ = some (.string (tx bh)) ∧ (((((((W1.setCell ⟨sz + 1 + 1, 0, none⟩ u0).setCell ⟨sz + 1 + 1, 1, none⟩ u1).setCell ⟨sz + 1 + 1, 2, none⟩ u2).setCell ⟨sz + 1 + 1, 3, none⟩ u3).setCell ⟨sz + 1 + 1, 4, none⟩ u4).setCell ⟨sz + 1 + 1, 5, none⟩ u5).setCell ⟨sz + 1 + 1, 6, none⟩ u6).cell? ⟨sz, 2, none⟩ = some (.int .i64 (ins : Int)))) := fun W1 f u0 u1 u2 u3 u4 u5 u6 =>
    HS3.out _ ((f.mono (q := fun k => (k = b ∨ k = mp) ∨ k = sz + 2) fun i e => Or.inl e).set7 (g := sz + 1 + 1) (.inl (.inr rfl)) u0 u1 u2 u3 u4 u5 u6)
  go_wp2_with fail
  go_region_held (fun w' => (w'.cell? ⟨sz + 1, 0, none⟩ = some (.string (tx key)) ∧ w'.cell? ⟨sz + 1, 2, none⟩ = some (.string (tx bh)) ∧ w'.cell? ⟨sz, 2, none⟩ = some (.int .i64 (ins : Int)))) (first | (go_keep; done) | exact HS5.out _ HF2.out _ _ _ _ _ _ _)
    (first
      | (go_at_call 117; (with_reducible refine (HQ2.out _ HGWD.out HRDD.out).mono ?_); rintro e W1 (⟨er, hx, rfl, hf1⟩ | ⟨y, mk, mf, mn, ms, mla, mlc, ml, mka, mkc, mks, rfl, hy, hf1⟩); exact ⟨rfl, by rw [hx]; exact ⟨rfl, HGWD.out.trans (hf1.mono fun i e => .inl e)⟩⟩; have HF1 := Lib.hid hf1; have HY := Lib.hid hy; have HF2 : Hid (Wr (fun k => k = b ∨ k = mp) wd W1) := HDD.out.trans (hf1.mono fun i e => .inl e); obtain ⟨y0, y1, y2⟩ := HS3.out W1 (HF2.out.mono fun i e => .inl e); obtain ⟨c0, c1, c2, c3, c4, c5, c6, f, lt⟩ := pb_facts (g := sz + 1 + 1) (HF2.out.at (by have := HLT.out; have := HMLT.out; omega) HPB.out); have f0 := f 0; have f1 := f 1; have f2 := f 2; have f3 := f 3; have f4 := f 4; have f5 := f 5; have f6 := f 6; clear hf1 hy f))
  go_wp2
  obtain ⟨hx, hpl, hnw, line', hrl⟩ := HY.out
  refine bodyPost_ret (v := .agg #[.string (tx key), .int .i64 mk, .bool mf, .int .i64 mn, .string ms, .slice mla ml.length mlc, .slice mka mks.length mkc]) (by simp [results, Tryz.results116, go_sem, *]) rfl ?_
  rw [hx]
  exact pair_close (m := v.M.mk mk mf mn ms mla mlc ml mka mkc mks) HLT.out HMLT.out HSZ.out HGWD.out HPBL.out hpl hnw hrl (seen_wr (w := wd.drew) HSD.out HF1.out (by have := HMB.out; omega)) (HF1.out.mono fun i e => .inl e) _ _ _ _ _ _ _
end Go.Proofs.YthhdadfnkdjmkaaGreatDoor.y
namespace Go.Proofs.YthhdadfnkdjmkaaGreatDoor.y
open Go.ChangeShapes Go.WideShapes Go.ChangeAt Go.RowKit
variable {w : World}
theorem base_fresh2 {we w W : World} {b mp : Nat} (hfe : Fresh we w) (hwe : we.heap.size ≤ b) (hm : b < mp) (f : Wr (fun k => k = b ∨ k = mp) w W) : Fresh we W :=
  Wr.toFresh (p := fun k => we.heap.size ≤ k) ((Wr.of_fresh hfe).then f (fun i e => .inl (by omega))) (fun k hk e => by omega)
theorem cast_succ (n : Nat) : ((n + 1 : Nat) : Int) = (n : Int) + 1 := by omega
theorem sc_blk {W : World} {b line : Nat} {R : List Rw} {x : Int × v.V} {e : Ending} {w' : World} (hr : Rdr W b R line) (hp : x.2.list = [] ∧ x.2.keys = []) (hs : x.2.text.size ≤ 1000000) (h : ScIs W line x e w') :
    BlkIs W b (if x.1 ≠ 0 then .error (line, x.1) else .ok x.2) R e w' := by
  obtain ⟨h1, h2, h3⟩ := h
  by_cases hx : x.1 = 0
  · rw [if_neg (by simp [hx])]
    exact ⟨⟨flatM x.2, line, h2 hx, flat_plain _ hp, flat_new _ _ _ hs, hr.move h3⟩, .of_fresh h3⟩
  · rw [if_pos hx]
    exact ⟨h1 hx, .of_fresh h3⟩
theorem pair_any (n : Nat) (ih : SayBlk n) (we : World) (b mp k : Nat) (L : List ByteArray) (R : List Rw) (line ind ins : Nat) (ar : Int) (d : Bool) (m : Ent) (w : World) (hE : Env we) (hwe : we.heap.size ≤ b) (hfe : Fresh we w) (hsg : (seg ind R).length ≤ n) (hR : Fine R) (hi : ins < 32)
    (h : Rdr w b R line) (hs : v.seenIs w mp k L) (hk1 : k ≤ 1000000) (hmb : b < mp) (hk : m.key.length ≤ 90000) (hbh : m.behind.length ≤ 90000) :
    Calls Tryz.prog 116 #[.pointer (some ⟨b, 0, none⟩), placeV ar ind ins d, entV m, .map (some mp)] w (PairIs w b mp k L m.key (pairM ind ins line m R L)) := by
  obtain ⟨key, q, bh⟩ := m
  dsimp only at hk hbh ⊢
  have hbl : ∀ W : World, Wr (fun k => k = b ∨ k = mp) w W → Rdr W b R line → Calls Tryz.prog 55 #[.pointer (some ⟨b, 0, none⟩), .int .i64 (ind : Int), .int .i64 ((ins : Int) + 1)] W (BlkIs W b (blk (seg ind R) (ins + 1)) (off ind R)) := fun W f hr => by
    have := ih we b R line (ins + 1) ind W hE hwe (base_fresh2 hfe hwe hmb f) hsg hR (by omega) hr
    rw [cast_succ] at this
    exact this
  have hsc : bh ≠ [] → ∀ W : World, Wr (fun k => k = b ∨ k = mp) w W → Rdr W b R line → Calls Tryz.prog 117 #[.pointer (some ⟨b, 0, none⟩), .string (tx bh), .int .i64 ((ins : Int) + 1)] W (BlkIs W b (if (scM bh (ins + 1)).1 ≠ 0 then .error (line, (scM bh (ins + 1)).1) else .ok (scM bh (ins + 1)).2) R) := fun hne W f hr => by
    have := scalar_any b R line bh (ins + 1) W hr (hE.move (base_fresh2 hfe hwe hmb f)) hne hbh
    rw [cast_succ] at this
    exact this.mono fun e w' k => sc_blk hr (scM_flat bh (ins + 1)) (Nat.le_trans (scM_size bh (ins + 1) hbh) (by decide)) k
  have bad : ∀ (c : Int) (e : Ending) (w' : World), c ≠ 0 → keyE ⟨key, q, bh⟩ L = c → Panics line c e ∧ Fresh w w' → PairIs w b mp k L key (pairM ind ins line ⟨key, q, bh⟩ R L) e w' := fun c e w' hc he k => by
    have hM : pairM ind ins line ⟨key, q, bh⟩ R L = .error (line, c) := by rw [pairM, if_pos (by rw [he]; exact hc), he]
    rw [hM]
    exact ⟨k.1, .of_fresh k.2⟩
  by_cases h1 : q = false ∧ keyB key = false
  · obtain ⟨rfl, hkb⟩ := h1
    exact (pair_form b mp R line ind ins ar d key bh w h (by omega) hkb).mono fun e w' k => bad 6 e w' (by decide) (by rw [keyE, if_pos ⟨rfl, hkb⟩]) k
  by_cases h2 : 4096 < key.length
  · have hE2 : keyE ⟨key, q, bh⟩ L = 2 := by rw [keyE, if_neg h1, if_pos h2]
    cases q with
    | true => exact (pair_long_q b mp R line ind ins ar d key bh w h (by omega) h2).mono fun e w' k => bad 2 e w' (by decide) hE2 k
    | false => exact (pair_long_p b mp R line ind ins ar d key bh w h (by omega) (by cases hq : keyB key with | true => rfl | false => exact absurd ⟨rfl, hq⟩ h1) h2).mono fun e w' k => bad 2 e w' (by decide) hE2 k
  cases h3 : v.inB (tx key) L with
  | true =>
    have hE8 : keyE ⟨key, q, bh⟩ L = 8 := by rw [keyE, if_neg h1, if_neg h2, if_pos h3]
    cases q with
    | true => exact (pair_twice_q b mp R line ind ins ar d key bh w h (by omega) k L hs h2 h3).mono fun e w' k => bad 8 e w' (by decide) hE8 k
    | false => exact (pair_twice_p b mp R line ind ins ar d key bh w h (by omega) (by cases hq : keyB key with | true => rfl | false => exact absurd ⟨rfl, hq⟩ h1) k L hs h2 h3).mono fun e w' k => bad 8 e w' (by decide) hE8 k
  | false =>
    have hE0 : keyE ⟨key, q, bh⟩ L = 0 := by rw [keyE, if_neg h1, if_neg h2, if_neg (by rw [h3]; exact Bool.false_ne_true)]
    by_cases h4 : bh = []
    · have hM : pairM ind ins line ⟨key, q, bh⟩ R L = withRows (blk (seg ind R) (ins + 1)) (off ind R) := by
        rw [pairM, if_neg (by simp [hE0]), if_pos h4]
        cases blk (seg ind R) (ins + 1) <;> rfl
      rw [hM]
      cases q with
      | true => exact pair_below_q b mp R line ind ins ar d key bh w h (by omega) k L hs hk1 hmb hi h2 h3 _ _ h4 hbl
      | false => exact pair_below_p b mp R line ind ins ar d key bh w h (by omega) (by cases hq : keyB key with | true => rfl | false => exact absurd ⟨rfl, hq⟩ h1) k L hs hk1 hmb hi h2 h3 _ _ h4 hbl
    · have hM : pairM ind ins line ⟨key, q, bh⟩ R L = withRows (if (scM bh (ins + 1)).1 ≠ 0 then .error (line, (scM bh (ins + 1)).1) else .ok (scM bh (ins + 1)).2) R := by
        rw [pairM, if_neg (by simp [hE0]), if_neg h4]
        by_cases hx : (scM bh (ins + 1)).1 = 0
        · rw [if_neg (by simp [hx]), if_neg (by simp [hx])]; rfl
        · rw [if_pos hx, if_pos hx]; rfl
      rw [hM]
      cases q with
      | true => exact pair_behind_q b mp R line ind ins ar d key bh w h (by omega) k L hs hk1 hmb hi h2 h3 _ _ h4 (hsc h4)
      | false => exact pair_behind_p b mp R line ind ins ar d key bh w h (by omega) (by cases hq : keyB key with | true => rfl | false => exact absurd ⟨rfl, hq⟩ h1) k L hs hk1 hmb hi h2 h3 _ _ h4 (hsc h4)
end Go.Proofs.YthhdadfnkdjmkaaGreatDoor.y
