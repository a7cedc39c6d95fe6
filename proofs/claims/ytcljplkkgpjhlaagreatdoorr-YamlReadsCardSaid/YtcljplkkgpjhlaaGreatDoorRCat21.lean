/-
  Parts of the proof: YPair YPair2 YLoopK.
-/
import Derived.Test.YtcljplkkgpjhlaaGreatDoorRCat20
import Derived.Test.YtcljplkkgpjhlaaGreatDoorRCat10
import Derived.Deep.RegionHeld3
import Derived.IntWalk
import Derived.Test.YtcljplkkgpjhlaaGreatDoorRCat18
set_option maxRecDepth 100000
set_option maxHeartbeats 8000000
namespace Go.Proofs.YtcljplkkgpjhlaaGreatDoorR
namespace y
open Go.ChangeShapes Go.WideShapes Go.ChangeAt Go.RowKit
attribute [local go_sem ↓] Go.wp_at_zero Go.wp_at_succ
variable {w : World}
theorem pair_form (b mp : Nat) (R : List Rw) (line ind ins : Nat) (ar : Int) (d : Bool) (key bh : List UInt8) (w : World) (h : Rdr w b R line) (hk : key.length ≤ 100000) (hkey : keyB key = false) :
    Calls Tryz.prog 116 #[.pointer (some ⟨b, 0, none⟩), placeV ar ind ins d, entV ⟨key, false, bh⟩, .map (some mp)] w fun e w' => Panics line 6 e ∧ Fresh w w' := by
  have HW : Hid (∀ (x : Int) (W : World), Rdr W b R line → Calls Tryz.prog 54 #[.pointer (some ⟨b, 0, none⟩), .int .i64 x] W fun e w' => e = .returned (misV line x) ∧ Fresh W w') := fun x W hW => wrong_any b R line x W hW
  have H := Lib.hid h
  have HB := Lib.hid (boxes3_new w ar ind ins d ⟨key, false, bh⟩)
  have HKY : Hid (∀ W : World, Calls Tryz.prog 12 #[.string (tx key)] W fun e w' => e = .returned (.bool false) ∧ Fresh W w') := fun W => by
    have := key_any key W (by omega)
    rw [hkey] at this
    exact this
  clear h hk hkey
  unfold placeV entV
  dsimp only
  go_enter Tryz.func116, Tryz.ntmps116
  go_upto_region 1 with (fail)
  generalize ((w.alloc (placeO ar ind ins d)).alloc (entO ⟨key, false, bh⟩)).alloc (.cells pcellZ 54 (0, 0)) = w0 at *
  generalize w.heap.size = sz at *
  obtain ⟨n0, n1, n2, nl⟩ := ent_facts HB.out.en
  go_wp2_with fail
  refine (HKY.out _).mono ?_
  rintro e w1 ⟨rfl, hf⟩
  have HF1 : Hid (Fresh w w1) := HB.out.fr.trans hf
  clear hf n0 n1 n2 nl
  go_wp2_with (go_at_call 54; refine (HW.out _ _ (H.out.move HF1.out)).mono ?_; rintro e w2 ⟨rfl, hf⟩; have HF2 := Lib.hid hf; clear hf)
  exact ⟨rfl, rfl, HF1.out.trans HF2.out⟩
theorem pair_long_q (b mp : Nat) (R : List Rw) (line ind ins : Nat) (ar : Int) (d : Bool) (key bh : List UInt8) (w : World) (h : Rdr w b R line) (hk : key.length ≤ 100000) (hl : 4096 < key.length) :
    Calls Tryz.prog 116 #[.pointer (some ⟨b, 0, none⟩), placeV ar ind ins d, entV ⟨key, true, bh⟩, .map (some mp)] w fun e w' => Panics line 2 e ∧ Fresh w w' := by
  have HW : Hid (∀ (x : Int) (W : World), Rdr W b R line → Calls Tryz.prog 54 #[.pointer (some ⟨b, 0, none⟩), .int .i64 x] W fun e w' => e = .returned (misV line x) ∧ Fresh W w') := fun x W hW => wrong_any b R line x W hW
  have H := Lib.hid h
  have HB := Lib.hid (boxes3_new w ar ind ins d ⟨key, true, bh⟩)
  have g1 : 4096 < (tx key).size := by rw [tx_size]; exact hl
  have g2 : (tx key).size ≤ 100000 := by rw [tx_size]; exact hk
  clear h hk hl
  unfold placeV entV
  dsimp only
  go_enter Tryz.func116, Tryz.ntmps116
  go_upto_region 1 with (fail)
  generalize ((w.alloc (placeO ar ind ins d)).alloc (entO ⟨key, true, bh⟩)).alloc (.cells pcellZ 54 (0, 0)) = w0 at *
  generalize w.heap.size = sz at *
  have HFC : Hid (Fresh w0 w0) := Fresh.refl w0
  obtain ⟨n0, n1, n2, nl⟩ := ent_facts HB.out.en
  have HR : Hid (Rdr w0 b R line) := H.out.move (HB.out.fr.trans HFC.out)
  go_wp2_with (go_at_call 54; refine (HW.out _ _ HR.out).mono ?_; rintro e w2 ⟨rfl, hf⟩; have HF2 := Lib.hid hf; clear hf)
  exact ⟨rfl, rfl, (HB.out.fr.trans HFC.out).trans HF2.out⟩
theorem pair_twice_q (b mp : Nat) (R : List Rw) (line ind ins : Nat) (ar : Int) (d : Bool) (key bh : List UInt8) (w : World) (h : Rdr w b R line) (hk : key.length ≤ 100000) (k : Nat) (L : List ByteArray) (hs : v.seenIs w mp k L) (hl : ¬ 4096 < key.length) (hm : v.inB (tx key) L = true) :
    Calls Tryz.prog 116 #[.pointer (some ⟨b, 0, none⟩), placeV ar ind ins d, entV ⟨key, true, bh⟩, .map (some mp)] w fun e w' => Panics line 8 e ∧ Fresh w w' := by
  have HW : Hid (∀ (x : Int) (W : World), Rdr W b R line → Calls Tryz.prog 54 #[.pointer (some ⟨b, 0, none⟩), .int .i64 x] W fun e w' => e = .returned (misV line x) ∧ Fresh W w') := fun x W hW => wrong_any b R line x W hW
  have H := Lib.hid h
  have HS := Lib.hid hs
  have HB := Lib.hid (boxes3_new w ar ind ins d ⟨key, true, bh⟩)
  have g1 : ¬ 4096 < (tx key).size := by rw [tx_size]; exact hl
  have g2 : (tx key).size ≤ 100000 := by rw [tx_size]; exact hk
  have HM := Lib.hid hm
  clear h hk hl hs hm
  unfold placeV entV
  dsimp only
  go_enter Tryz.func116, Tryz.ntmps116
  go_upto_region 1 with (fail)
  generalize ((w.alloc (placeO ar ind ins d)).alloc (entO ⟨key, true, bh⟩)).alloc (.cells pcellZ 54 (0, 0)) = w0 at *
  generalize w.heap.size = sz at *
  have HFC : Hid (Fresh w0 w0) := Fresh.refl w0
  obtain ⟨n0, n1, n2, nl⟩ := ent_facts HB.out.en
  have HR : Hid (Rdr w0 b R line) := H.out.move (HB.out.fr.trans HFC.out)
  have hlook := (seen_wr HS.out (p := fun _ => False) (.of_fresh (HB.out.fr.trans HFC.out)) id).look (tx key) (by omega)
  rw [HM.out] at hlook
  go_wp2_with (go_at_call 54; refine (HW.out _ _ HR.out).mono ?_; rintro e w2 ⟨rfl, hf⟩; have HF2 := Lib.hid hf; clear hf)
  exact ⟨rfl, rfl, (HB.out.fr.trans HFC.out).trans HF2.out⟩
theorem pair_below_q (b mp : Nat) (R : List Rw) (line ind ins : Nat) (ar : Int) (d : Bool) (key bh : List UInt8) (w : World) (h : Rdr w b R line) (hk : key.length ≤ 100000) (k : Nat) (L : List ByteArray) (hs : v.seenIs w mp k L) (hk1 : k ≤ 1000000) (hmb : b < mp) (hi : ins < 32) (hl : ¬ 4096 < key.length) (hm : v.inB (tx key) L = false)
    (x : Res) (R' : List Rw) (he : bh = []) (hq : ∀ W : World, Wr (fun k => k = b ∨ k = mp) w W → Rdr W b R line → Calls Tryz.prog 55 #[.pointer (some ⟨b, 0, none⟩), .int .i64 (ind : Int), .int .i64 ((ins : Int) + 1)] W (BlkIs W b x R')) :
    Calls Tryz.prog 116 #[.pointer (some ⟨b, 0, none⟩), placeV ar ind ins d, entV ⟨key, true, bh⟩, .map (some mp)] w (PairIs w b mp k L key (withRows x R')) := by
  have H := Lib.hid h
  have HS := Lib.hid hs
  have HQ := Lib.hid hq
  have HLT := Lib.hid h.lt
  have HMLT := Lib.hid hs.lt
  have HMB := Lib.hid hmb
  have HK1 := Lib.hid hk1
  have HB := Lib.hid (boxes3_new w ar ind ins d ⟨key, true, bh⟩)
  have g1 : ¬ 4096 < (tx key).size := by rw [tx_size]; exact hl
  have g2 : (tx key).size ≤ 100000 := by rw [tx_size]; exact hk
  have HM := Lib.hid hm
  have e1 : (tx bh).toList.isEmpty = true := by rw [tx_list, he]; rfl
  clear h hk hl hs hm hq hmb hk1 he
  unfold placeV entV
  dsimp only
  go_enter Tryz.func116, Tryz.ntmps116
  go_upto_region 1 with (fail)
  generalize ((w.alloc (placeO ar ind ins d)).alloc (entO ⟨key, true, bh⟩)).alloc (.cells pcellZ 54 (0, 0)) = w0 at *
  generalize hsz : w.heap.size = sz at *
  have HSZ := Lib.hid hsz
  clear hsz
  have HFC : Hid (Fresh w0 w0) := Fresh.refl w0
  obtain ⟨n0, n1, n2, nl⟩ := ent_facts HB.out.en
  have HR : Hid (Rdr w0 b R line) := H.out.move (HB.out.fr.trans HFC.out)
  have HSC : Hid (v.seenIs w0 mp k L) := seen_wr HS.out (p := fun _ => False) (.of_fresh (HB.out.fr.trans HFC.out)) id
  have hlook := HSC.out.look (tx key) (by omega)
  rw [HM.out] at hlook
  obtain ⟨D, hown, hD⟩ := HSC.out
  have HO := Lib.hid hown
  have HD := Lib.hid hD
  clear hown hD
  go_wp2_with (at_mapUpdate; refine wpList_mapUpdate_own _ rfl _ _ _ 165 rfl 9 4 v.law9 Tryz.underlying165 v.boolR mp k D rfl HO.out (by have := HK1.out; unfold maxLen; omega) _ _ _ rfl rfl (v.key_of (tx key) (by omega)) _ [] rfl ?_; intro wd ho5 hg5; have HO5 := Lib.hid ho5; have HG5 := Lib.hid hg5; clear ho5 hg5 hlook; obtain ⟨n0', n1', n2', nl'⟩ := ent_facts ((Boxes3.wr HB.out (Wr.grown (p := fun k => k = mp) (.of_fresh HFC.out) HG5.out (fun g e => .inl (by injection e with e; exact e.symm))) (fun k hk e => by have := HMLT.out; omega)).2.1); clear n0 n1 n2 nl)
  have HGD : Hid (Wr (fun k => k = mp) w0 wd) := Wr.grown (p := fun k => k = mp) (.of_fresh HFC.out) HG5.out (fun g e => .inl (by injection e with e; exact e.symm))
  have HRD : Hid (Rdr wd b R line) := (H.out.move HB.out.fr).keep HGD.out (fun k hk e => by have := HMB.out; omega)
  have HSD : Hid (v.seenIs wd mp (k + 1) (L ++ [tx key])) := ⟨_, HO5.out, fun s => v.seen_put HO.out.isMap HD.out (tx key) (by omega) s⟩
  have KB := HB.out.wr HGD.out (fun k hk e => by have := HMLT.out; omega)
  have HGW : Hid (Wr (fun k => k = b ∨ k = mp) w wd) := (Wr.of_fresh HB.out.fr).trans (HGD.out.mono fun i e => .inr e)
  have HPL := Lib.hid KB.1
  have HEN := Lib.hid KB.2.1
  have HPB := Lib.hid KB.2.2
  clear KB HO HD HO5 HG5 HGD HSC HFC HR HM n0' n1' n2' nl'
  have HS3 : Hid (∀ w' : World, Wr (fun k => (k = b ∨ k = mp) ∨ k = sz + 2) wd w' → (w'.cell? ⟨sz + 1, 0, none⟩ = some (.string (tx key)) ∧ w'.cell? ⟨sz, 1, none⟩ = some (.int .i64 (ind : Int)) ∧ w'.cell? ⟨sz, 2, none⟩ = some (.int .i64 (ins : Int)))) := fun w' f => by
    have N := ent_facts (f.at (by have := HLT.out; have := HMLT.out; omega) HEN.out)
    have P := place_facts (f.at (by have := HLT.out; have := HMLT.out; omega) HPL.out)
    exact ⟨N.n0, P.p1, P.p2⟩
  obtain ⟨z0, z1, z2⟩ := HS3.out wd (Wr.refl _ _)
  have HRDD : Hid (Rdr wd.drew b R line) := HRD.out.move (Fresh.refl wd).drew
  have HGWD : Hid (Wr (fun k => k = b ∨ k = mp) w wd.drew) := HGW.out.drew
  have HPL0 := v.lt_of_at HPB.out
  have HPBL : Hid (sz + 2 < wd.heap.size) := HPL0
  clear HPL0
  have HDD : Hid (Wr (fun k => k = b ∨ k = mp) wd wd.drew) := (Wr.refl _ wd).drew
  have hwrap : IntKind.i64.wrap ((ins : Int) + 1) = (ins : Int) + 1 := IntWalk.i64_in _ (by omega)
  have HQ2 : Hid (∀ W : World, Wr (fun k => k = b ∨ k = mp) w W → Rdr W b R line → Calls Tryz.prog 55 #[.pointer (some ⟨b, 0, none⟩), .int .i64 (ind : Int), .int .i64 ((ins : Int) + 1)] W (BlkP W b x R')) := fun W f hr => (HQ.out W f hr).mono fun e w' k => blkP k
  clear HQ
  have HS5 : Hid (∀ W1 : World, Wr (fun k => k = b ∨ k = mp) wd W1 → ∀ u0 u1 u2 u3 u4 u5 u6 : Value, ((((((((W1.setCell ⟨sz + 1 + 1, 0, none⟩ u0).setCell ⟨sz + 1 + 1, 1, none⟩ u1).setCell ⟨sz + 1 + 1, 2, none⟩ u2).setCell ⟨sz + 1 + 1, 3, none⟩ u3).setCell ⟨sz + 1 + 1, 4, none⟩ u4).setCell ⟨sz + 1 + 1, 5, none⟩ u5).setCell ⟨sz + 1 + 1, 6, none⟩ u6).cell? ⟨sz + 1, 0, none⟩ = some (.string (tx key)) ∧ (((((((W1.setCell ⟨sz + 1 + 1, 0, none⟩ u0).setCell ⟨sz + 1 + 1, 1, none⟩ u1).setCell ⟨sz + 1 + 1, 2, none⟩ u2).setCell ⟨sz + 1 + 1, 3, none⟩ u3).setCell ⟨sz + 1 + 1, 4, none⟩ u4).setCell ⟨sz + 1 + 1, 5, none⟩ u5).setCell ⟨sz + 1 + 1, 6, none⟩ u6).cell? ⟨sz, 1, none⟩ = some (.int .i64 (ind : Int)) ∧ (((((((W1.setCell ⟨sz + 1 + 1, 0, none⟩ u0).setCell ⟨sz + 1 + 1, 1, none⟩ u1).setCell ⟨sz + 1 + 1, 2, none⟩ u2).setCell ⟨sz + 1 + 1, 3, none⟩ u3).setCell ⟨sz + 1 + 1, 4, none⟩ u4).setCell ⟨sz + 1 + 1, 5, none⟩ u5).setCell ⟨sz + 1 + 1, 6, none⟩ u6).cell? ⟨sz, 2, none⟩ = some (.int .i64 (ins : Int)))) := fun W1 f u0 u1 u2 u3 u4 u5 u6 =>
    HS3.out _ ((f.mono (q := fun k => (k = b ∨ k = mp) ∨ k = sz + 2) fun i e => Or.inl e).set7 (g := sz + 1 + 1) (.inl (.inr rfl)) u0 u1 u2 u3 u4 u5 u6)
  go_wp2_with fail
  go_region_held (fun w' => (w'.cell? ⟨sz + 1, 0, none⟩ = some (.string (tx key)) ∧ w'.cell? ⟨sz, 1, none⟩ = some (.int .i64 (ind : Int)) ∧ w'.cell? ⟨sz, 2, none⟩ = some (.int .i64 (ins : Int)))) (first | (go_keep; done) | exact HS5.out _ HF2.out _ _ _ _ _ _ _)
    (first
      | (go_at_call 55; (with_reducible refine (HQ2.out _ HGWD.out HRDD.out).mono ?_); rintro e W1 (⟨er, hx, rfl, hf1⟩ | ⟨y, mk, mf, mn, ms, mla, mlc, ml, mka, mkc, mks, rfl, hy, hf1⟩); exact ⟨rfl, by rw [hx]; exact ⟨rfl, HGWD.out.trans (hf1.mono fun i e => .inl e)⟩⟩; have HF1 := Lib.hid hf1; have HY := Lib.hid hy; have HF2 : Hid (Wr (fun k => k = b ∨ k = mp) wd W1) := HDD.out.trans (hf1.mono fun i e => .inl e); obtain ⟨y0, y1, y2⟩ := HS3.out W1 (HF2.out.mono fun i e => .inl e); obtain ⟨c0, c1, c2, c3, c4, c5, c6, f, lt⟩ := pb_facts (g := sz + 1 + 1) (HF2.out.at (by have := HLT.out; have := HMLT.out; omega) HPB.out); have f0 := f 0; have f1 := f 1; have f2 := f 2; have f3 := f 3; have f4 := f 4; have f5 := f 5; have f6 := f 6; clear hf1 hy f))
  go_wp2
  obtain ⟨hx, hpl, hnw, line', hrl⟩ := HY.out
  refine bodyPost_ret (v := .agg #[.string (tx key), .int .i64 mk, .bool mf, .int .i64 mn, .string ms, .slice mla ml.length mlc, .slice mka mks.length mkc]) (by simp [results, Tryz.results116, go_sem, *]) rfl ?_
  rw [hx]
  exact pair_close (m := v.M.mk mk mf mn ms mla mlc ml mka mkc mks) HLT.out HMLT.out HSZ.out HGWD.out HPBL.out hpl hnw hrl (seen_wr (w := wd.drew) HSD.out HF1.out (by have := HMB.out; omega)) (HF1.out.mono fun i e => .inl e) _ _ _ _ _ _ _
theorem pair_behind_q (b mp : Nat) (R : List Rw) (line ind ins : Nat) (ar : Int) (d : Bool) (key bh : List UInt8) (w : World) (h : Rdr w b R line) (hk : key.length ≤ 100000) (k : Nat) (L : List ByteArray) (hs : v.seenIs w mp k L) (hk1 : k ≤ 1000000) (hmb : b < mp) (hi : ins < 32) (hl : ¬ 4096 < key.length) (hm : v.inB (tx key) L = false)
    (x : Res) (R' : List Rw) (he : bh ≠ []) (hq : ∀ W : World, Wr (fun k => k = b ∨ k = mp) w W → Rdr W b R line → Calls Tryz.prog 117 #[.pointer (some ⟨b, 0, none⟩), .string (tx bh), .int .i64 ((ins : Int) + 1)] W (BlkIs W b x R')) :
    Calls Tryz.prog 116 #[.pointer (some ⟨b, 0, none⟩), placeV ar ind ins d, entV ⟨key, true, bh⟩, .map (some mp)] w (PairIs w b mp k L key (withRows x R')) := by
  have H := Lib.hid h
  have HS := Lib.hid hs
  have HQ := Lib.hid hq
  have HLT := Lib.hid h.lt
  have HMLT := Lib.hid hs.lt
  have HMB := Lib.hid hmb
  have HK1 := Lib.hid hk1
  have HB := Lib.hid (boxes3_new w ar ind ins d ⟨key, true, bh⟩)
  have g1 : ¬ 4096 < (tx key).size := by rw [tx_size]; exact hl
  have g2 : (tx key).size ≤ 100000 := by rw [tx_size]; exact hk
  have HM := Lib.hid hm
  have e1 : (tx bh).toList.isEmpty = false := by rw [tx_list]; cases bh with | nil => exact absurd rfl he | cons c r => rfl
  clear h hk hl hs hm hq hmb hk1 he
  unfold placeV entV
  dsimp only
  go_enter Tryz.func116, Tryz.ntmps116
  go_upto_region 1 with (fail)
  generalize ((w.alloc (placeO ar ind ins d)).alloc (entO ⟨key, true, bh⟩)).alloc (.cells pcellZ 54 (0, 0)) = w0 at *
  generalize hsz : w.heap.size = sz at *
  have HSZ := Lib.hid hsz
  clear hsz
  have HFC : Hid (Fresh w0 w0) := Fresh.refl w0
  obtain ⟨n0, n1, n2, nl⟩ := ent_facts HB.out.en
  have HR : Hid (Rdr w0 b R line) := H.out.move (HB.out.fr.trans HFC.out)
  have HSC : Hid (v.seenIs w0 mp k L) := seen_wr HS.out (p := fun _ => False) (.of_fresh (HB.out.fr.trans HFC.out)) id
  have hlook := HSC.out.look (tx key) (by omega)
  rw [HM.out] at hlook
  obtain ⟨D, hown, hD⟩ := HSC.out
  have HO := Lib.hid hown
  have HD := Lib.hid hD
  clear hown hD
  go_wp2_with (at_mapUpdate; refine wpList_mapUpdate_own _ rfl _ _ _ 165 rfl 9 4 v.law9 Tryz.underlying165 v.boolR mp k D rfl HO.out (by have := HK1.out; unfold maxLen; omega) _ _ _ rfl rfl (v.key_of (tx key) (by omega)) _ [] rfl ?_; intro wd ho5 hg5; have HO5 := Lib.hid ho5; have HG5 := Lib.hid hg5; clear ho5 hg5 hlook; obtain ⟨n0', n1', n2', nl'⟩ := ent_facts ((Boxes3.wr HB.out (Wr.grown (p := fun k => k = mp) (.of_fresh HFC.out) HG5.out (fun g e => .inl (by injection e with e; exact e.symm))) (fun k hk e => by have := HMLT.out; omega)).2.1); clear n0 n1 n2 nl)
  have HGD : Hid (Wr (fun k => k = mp) w0 wd) := Wr.grown (p := fun k => k = mp) (.of_fresh HFC.out) HG5.out (fun g e => .inl (by injection e with e; exact e.symm))
  have HRD : Hid (Rdr wd b R line) := (H.out.move HB.out.fr).keep HGD.out (fun k hk e => by have := HMB.out; omega)
  have HSD : Hid (v.seenIs wd mp (k + 1) (L ++ [tx key])) := ⟨_, HO5.out, fun s => v.seen_put HO.out.isMap HD.out (tx key) (by omega) s⟩
  have KB := HB.out.wr HGD.out (fun k hk e => by have := HMLT.out; omega)
  have HGW : Hid (Wr (fun k => k = b ∨ k = mp) w wd) := (Wr.of_fresh HB.out.fr).trans (HGD.out.mono fun i e => .inr e)
  have HPL := Lib.hid KB.1
  have HEN := Lib.hid KB.2.1
  have HPB := Lib.hid KB.2.2
  clear KB HO HD HO5 HG5 HGD HSC HFC HR HM n0' n1' n2' nl'
  have HS3 : Hid (∀ w' : World, Wr (fun k => (k = b ∨ k = mp) ∨ k = sz + 2) wd w' → (w'.cell? ⟨sz + 1, 0, none⟩ = some (.string (tx key)) ∧ w'.cell? ⟨sz + 1, 2, none⟩ = some (.string (tx bh)) ∧ w'.cell? ⟨sz, 2, none⟩ = some (.int .i64 (ins : Int)))) := fun w' f => by
    have N := ent_facts (f.at (by have := HLT.out; have := HMLT.out; omega) HEN.out)
    have P := place_facts (f.at (by have := HLT.out; have := HMLT.out; omega) HPL.out)
    exact ⟨N.n0, N.n2, P.p2⟩
  obtain ⟨z0, z1, z2⟩ := HS3.out wd (Wr.refl _ _)
  have HRDD : Hid (Rdr wd.drew b R line) := HRD.out.move (Fresh.refl wd).drew
  have HGWD : Hid (Wr (fun k => k = b ∨ k = mp) w wd.drew) := HGW.out.drew
  have HPL0 := v.lt_of_at HPB.out
  have HPBL : Hid (sz + 2 < wd.heap.size) := HPL0
  clear HPL0
  have HDD : Hid (Wr (fun k => k = b ∨ k = mp) wd wd.drew) := (Wr.refl _ wd).drew
  have hwrap : IntKind.i64.wrap ((ins : Int) + 1) = (ins : Int) + 1 := IntWalk.i64_in _ (by omega)
  have HQ2 : Hid (∀ W : World, Wr (fun k => k = b ∨ k = mp) w W → Rdr W b R line → Calls Tryz.prog 117 #[.pointer (some ⟨b, 0, none⟩), .string (tx bh), .int .i64 ((ins : Int) + 1)] W (BlkP W b x R')) := fun W f hr => (HQ.out W f hr).mono fun e w' k => blkP k
  clear HQ
  have HS5 : Hid (∀ W1 : World, Wr (fun k => k = b ∨ k = mp) wd W1 → ∀ u0 u1 u2 u3 u4 u5 u6 : Value, ((((((((W1.setCell ⟨sz + 1 + 1, 0, none⟩ u0).setCell ⟨sz + 1 + 1, 1, none⟩ u1).setCell ⟨sz + 1 + 1, 2, none⟩ u2).setCell ⟨sz + 1 + 1, 3, none⟩ u3).setCell ⟨sz + 1 + 1, 4, none⟩ u4).setCell ⟨sz + 1 + 1, 5, none⟩ u5).setCell ⟨sz + 1 + 1, 6, none⟩ u6).cell? ⟨sz + 1, 0, none⟩ = some (.string (tx key)) ∧ (((((((W1.setCell ⟨sz + 1 + 1, 0, none⟩ u0).setCell ⟨sz + 1 + 1, 1, none⟩ u1).setCell ⟨sz + 1 + 1, 2, none⟩ u2).setCell ⟨sz + 1 + 1, 3, none⟩ u3).setCell ⟨sz + 1 + 1, 4, none⟩ u4).setCell ⟨sz + 1 + 1, 5, none⟩ u5).setCell ⟨sz + 1 + 1, 6, none⟩ u6).cell? ⟨sz + 1, 2, none⟩ = some (.string (tx bh)) ∧ (((((((W1.setCell ⟨sz + 1 + 1, 0, none⟩ u0).setCell ⟨sz + 1 + 1, 1, none⟩ u1).setCell ⟨sz + 1 + 1, 2, none⟩ u2).setCell ⟨sz + 1 + 1, 3, none⟩ u3).setCell ⟨sz + 1 + 1, 4, none⟩ u4).setCell ⟨sz + 1 + 1, 5, none⟩ u5).setCell ⟨sz + 1 + 1, 6, none⟩ u6).cell? ⟨sz, 2, none⟩ = some (.int .i64 (ins : Int)))) := fun W1 f u0 u1 u2 u3 u4 u5 u6 =>
    HS3.out _ ((f.mono (q := fun k => (k = b ∨ k = mp) ∨ k = sz + 2) fun i e => Or.inl e).set7 (g := sz + 1 + 1) (.inl (.inr rfl)) u0 u1 u2 u3 u4 u5 u6)
  go_wp2_with fail
  go_region_held (fun w' => (w'.cell? ⟨sz + 1, 0, none⟩ = some (.string (tx key)) ∧ w'.cell? ⟨sz + 1, 2, none⟩ = some (.string (tx bh)) ∧ w'.cell? ⟨sz, 2, none⟩ = some (.int .i64 (ins : Int)))) (first | (go_keep; done) | exact HS5.out _ HF2.out _ _ _ _ _ _ _)
    (first
      | (go_at_call 117; (with_reducible refine (HQ2.out _ HGWD.out HRDD.out).mono ?_); rintro e W1 (⟨er, hx, rfl, hf1⟩ | ⟨y, mk, mf, mn, ms, mla, mlc, ml, mka, mkc, mks, rfl, hy, hf1⟩); exact ⟨rfl, by rw [hx]; exact ⟨rfl, HGWD.out.trans (hf1.mono fun i e => .inl e)⟩⟩; have HF1 := Lib.hid hf1; have HY := Lib.hid hy; have HF2 : Hid (Wr (fun k => k = b ∨ k = mp) wd W1) := HDD.out.trans (hf1.mono fun i e => .inl e); obtain ⟨y0, y1, y2⟩ := HS3.out W1 (HF2.out.mono fun i e => .inl e); obtain ⟨c0, c1, c2, c3, c4, c5, c6, f, lt⟩ := pb_facts (g := sz + 1 + 1) (HF2.out.at (by have := HLT.out; have := HMLT.out; omega) HPB.out); have f0 := f 0; have f1 := f 1; have f2 := f 2; have f3 := f 3; have f4 := f 4; have f5 := f 5; have f6 := f 6; clear hf1 hy f))
  go_wp2
  obtain ⟨hx, hpl, hnw, line', hrl⟩ := HY.out
  refine bodyPost_ret (v := .agg #[.string (tx key), .int .i64 mk, .bool mf, .int .i64 mn, .string ms, .slice mla ml.length mlc, .slice mka mks.length mkc]) (by simp [results, Tryz.results116, go_sem, *]) rfl ?_
  rw [hx]
  exact pair_close (m := v.M.mk mk mf mn ms mla mlc ml mka mkc mks) HLT.out HMLT.out HSZ.out HGWD.out HPBL.out hpl hnw hrl (seen_wr (w := wd.drew) HSD.out HF1.out (by have := HMB.out; omega)) (HF1.out.mono fun i e => .inl e) _ _ _ _ _ _ _
theorem pair_long_p (b mp : Nat) (R : List Rw) (line ind ins : Nat) (ar : Int) (d : Bool) (key bh : List UInt8) (w : World) (h : Rdr w b R line) (hk : key.length ≤ 100000) (hkey : keyB key = true) (hl : 4096 < key.length) :
    Calls Tryz.prog 116 #[.pointer (some ⟨b, 0, none⟩), placeV ar ind ins d, entV ⟨key, false, bh⟩, .map (some mp)] w fun e w' => Panics line 2 e ∧ Fresh w w' := by
  have HW : Hid (∀ (x : Int) (W : World), Rdr W b R line → Calls Tryz.prog 54 #[.pointer (some ⟨b, 0, none⟩), .int .i64 x] W fun e w' => e = .returned (misV line x) ∧ Fresh W w') := fun x W hW => wrong_any b R line x W hW
  have H := Lib.hid h
  have HB := Lib.hid (boxes3_new w ar ind ins d ⟨key, false, bh⟩)
  have g1 : 4096 < (tx key).size := by rw [tx_size]; exact hl
  have g2 : (tx key).size ≤ 100000 := by rw [tx_size]; exact hk
  have HKY : Hid (∀ W : World, Calls Tryz.prog 12 #[.string (tx key)] W fun e w' => e = .returned (.bool true) ∧ Fresh W w') := fun W => by
    have := key_any key W (by omega)
    rw [hkey] at this
    exact this
  clear h hk hkey hl
  unfold placeV entV
  dsimp only
  go_enter Tryz.func116, Tryz.ntmps116
  go_upto_region 1 with (fail)
  generalize ((w.alloc (placeO ar ind ins d)).alloc (entO ⟨key, false, bh⟩)).alloc (.cells pcellZ 54 (0, 0)) = w0 at *
  generalize w.heap.size = sz at *
  obtain ⟨m0, m1, m2, ml⟩ := ent_facts HB.out.en
  go_wp2_with fail
  refine (HKY.out _).mono ?_
  rintro e wc ⟨rfl, hf⟩
  have HFC : Hid (Fresh w0 wc) := hf
  obtain ⟨n0, n1, n2, nl⟩ := ent_facts (v.Fresh.at hf HB.out.en)
  clear hf m0 m1 m2 ml HKY
  have HR : Hid (Rdr wc b R line) := H.out.move (HB.out.fr.trans HFC.out)
  go_wp2_with (go_at_call 54; refine (HW.out _ _ HR.out).mono ?_; rintro e w2 ⟨rfl, hf⟩; have HF2 := Lib.hid hf; clear hf)
  exact ⟨rfl, rfl, (HB.out.fr.trans HFC.out).trans HF2.out⟩
theorem pair_twice_p (b mp : Nat) (R : List Rw) (line ind ins : Nat) (ar : Int) (d : Bool) (key bh : List UInt8) (w : World) (h : Rdr w b R line) (hk : key.length ≤ 100000) (hkey : keyB key = true) (k : Nat) (L : List ByteArray) (hs : v.seenIs w mp k L) (hl : ¬ 4096 < key.length) (hm : v.inB (tx key) L = true) :
    Calls Tryz.prog 116 #[.pointer (some ⟨b, 0, none⟩), placeV ar ind ins d, entV ⟨key, false, bh⟩, .map (some mp)] w fun e w' => Panics line 8 e ∧ Fresh w w' := by
  have HW : Hid (∀ (x : Int) (W : World), Rdr W b R line → Calls Tryz.prog 54 #[.pointer (some ⟨b, 0, none⟩), .int .i64 x] W fun e w' => e = .returned (misV line x) ∧ Fresh W w') := fun x W hW => wrong_any b R line x W hW
  have H := Lib.hid h
  have HS := Lib.hid hs
  have HB := Lib.hid (boxes3_new w ar ind ins d ⟨key, false, bh⟩)
  have g1 : ¬ 4096 < (tx key).size := by rw [tx_size]; exact hl
  have g2 : (tx key).size ≤ 100000 := by rw [tx_size]; exact hk
  have HM := Lib.hid hm
  have HKY : Hid (∀ W : World, Calls Tryz.prog 12 #[.string (tx key)] W fun e w' => e = .returned (.bool true) ∧ Fresh W w') := fun W => by
    have := key_any key W (by omega)
    rw [hkey] at this
    exact this
  clear h hk hkey hl hs hm
  unfold placeV entV
  dsimp only
  go_enter Tryz.func116, Tryz.ntmps116
  go_upto_region 1 with (fail)
  generalize ((w.alloc (placeO ar ind ins d)).alloc (entO ⟨key, false, bh⟩)).alloc (.cells pcellZ 54 (0, 0)) = w0 at *
  generalize w.heap.size = sz at *
  obtain ⟨m0, m1, m2, ml⟩ := ent_facts HB.out.en
  go_wp2_with fail
  refine (HKY.out _).mono ?_
  rintro e wc ⟨rfl, hf⟩
  have HFC : Hid (Fresh w0 wc) := hf
  obtain ⟨n0, n1, n2, nl⟩ := ent_facts (v.Fresh.at hf HB.out.en)
  clear hf m0 m1 m2 ml HKY
  have HR : Hid (Rdr wc b R line) := H.out.move (HB.out.fr.trans HFC.out)
  have hlook := (seen_wr HS.out (p := fun _ => False) (.of_fresh (HB.out.fr.trans HFC.out)) id).look (tx key) (by omega)
  rw [HM.out] at hlook
  go_wp2_with (go_at_call 54; refine (HW.out _ _ HR.out).mono ?_; rintro e w2 ⟨rfl, hf⟩; have HF2 := Lib.hid hf; clear hf)
  exact ⟨rfl, rfl, (HB.out.fr.trans HFC.out).trans HF2.out⟩
theorem pair_below_p (b mp : Nat) (R : List Rw) (line ind ins : Nat) (ar : Int) (d : Bool) (key bh : List UInt8) (w : World) (h : Rdr w b R line) (hk : key.length ≤ 100000) (hkey : keyB key = true) (k : Nat) (L : List ByteArray) (hs : v.seenIs w mp k L) (hk1 : k ≤ 1000000) (hmb : b < mp) (hi : ins < 32) (hl : ¬ 4096 < key.length) (hm : v.inB (tx key) L = false)
    (x : Res) (R' : List Rw) (he : bh = []) (hq : ∀ W : World, Wr (fun k => k = b ∨ k = mp) w W → Rdr W b R line → Calls Tryz.prog 55 #[.pointer (some ⟨b, 0, none⟩), .int .i64 (ind : Int), .int .i64 ((ins : Int) + 1)] W (BlkIs W b x R')) :
    Calls Tryz.prog 116 #[.pointer (some ⟨b, 0, none⟩), placeV ar ind ins d, entV ⟨key, false, bh⟩, .map (some mp)] w (PairIs w b mp k L key (withRows x R')) := by
  have H := Lib.hid h
  have HS := Lib.hid hs
  have HQ := Lib.hid hq
  have HLT := Lib.hid h.lt
  have HMLT := Lib.hid hs.lt
  have HMB := Lib.hid hmb
  have HK1 := Lib.hid hk1
  have HB := Lib.hid (boxes3_new w ar ind ins d ⟨key, false, bh⟩)
  have g1 : ¬ 4096 < (tx key).size := by rw [tx_size]; exact hl
  have g2 : (tx key).size ≤ 100000 := by rw [tx_size]; exact hk
  have HM := Lib.hid hm
  have e1 : (tx bh).toList.isEmpty = true := by rw [tx_list, he]; rfl
  have HKY : Hid (∀ W : World, Calls Tryz.prog 12 #[.string (tx key)] W fun e w' => e = .returned (.bool true) ∧ Fresh W w') := fun W => by
    have := key_any key W (by omega)
    rw [hkey] at this
    exact this
  clear h hk hkey hl hs hm hq hmb hk1 he
  unfold placeV entV
  dsimp only
  go_enter Tryz.func116, Tryz.ntmps116
  go_upto_region 1 with (fail)
  generalize ((w.alloc (placeO ar ind ins d)).alloc (entO ⟨key, false, bh⟩)).alloc (.cells pcellZ 54 (0, 0)) = w0 at *
  generalize hsz : w.heap.size = sz at *
  have HSZ := Lib.hid hsz
  clear hsz
  obtain ⟨m0, m1, m2, ml⟩ := ent_facts HB.out.en
  go_wp2_with fail
  refine (HKY.out _).mono ?_
  rintro e wc ⟨rfl, hf⟩
  have HFC : Hid (Fresh w0 wc) := hf
  obtain ⟨n0, n1, n2, nl⟩ := ent_facts (v.Fresh.at hf HB.out.en)
  clear hf m0 m1 m2 ml HKY
  have HR : Hid (Rdr wc b R line) := H.out.move (HB.out.fr.trans HFC.out)
  have HSC : Hid (v.seenIs wc mp k L) := seen_wr HS.out (p := fun _ => False) (.of_fresh (HB.out.fr.trans HFC.out)) id
  have hlook := HSC.out.look (tx key) (by omega)
  rw [HM.out] at hlook
  obtain ⟨D, hown, hD⟩ := HSC.out
  have HO := Lib.hid hown
  have HD := Lib.hid hD
  clear hown hD
  go_wp2_with (at_mapUpdate; refine wpList_mapUpdate_own _ rfl _ _ _ 165 rfl 9 4 v.law9 Tryz.underlying165 v.boolR mp k D rfl HO.out (by have := HK1.out; unfold maxLen; omega) _ _ _ rfl rfl (v.key_of (tx key) (by omega)) _ [] rfl ?_; intro wd ho5 hg5; have HO5 := Lib.hid ho5; have HG5 := Lib.hid hg5; clear ho5 hg5 hlook; obtain ⟨n0', n1', n2', nl'⟩ := ent_facts ((Boxes3.wr HB.out (Wr.grown (p := fun k => k = mp) (.of_fresh HFC.out) HG5.out (fun g e => .inl (by injection e with e; exact e.symm))) (fun k hk e => by have := HMLT.out; omega)).2.1); clear n0 n1 n2 nl)
  have HGD : Hid (Wr (fun k => k = mp) w0 wd) := Wr.grown (p := fun k => k = mp) (.of_fresh HFC.out) HG5.out (fun g e => .inl (by injection e with e; exact e.symm))
  have HRD : Hid (Rdr wd b R line) := (H.out.move HB.out.fr).keep HGD.out (fun k hk e => by have := HMB.out; omega)
  have HSD : Hid (v.seenIs wd mp (k + 1) (L ++ [tx key])) := ⟨_, HO5.out, fun s => v.seen_put HO.out.isMap HD.out (tx key) (by omega) s⟩
  have KB := HB.out.wr HGD.out (fun k hk e => by have := HMLT.out; omega)
  have HGW : Hid (Wr (fun k => k = b ∨ k = mp) w wd) := (Wr.of_fresh HB.out.fr).trans (HGD.out.mono fun i e => .inr e)
  have HPL := Lib.hid KB.1
  have HEN := Lib.hid KB.2.1
  have HPB := Lib.hid KB.2.2
  clear KB HO HD HO5 HG5 HGD HSC HFC HR HM n0' n1' n2' nl'
  have HS3 : Hid (∀ w' : World, Wr (fun k => (k = b ∨ k = mp) ∨ k = sz + 2) wd w' → (w'.cell? ⟨sz + 1, 0, none⟩ = some (.string (tx key)) ∧ w'.cell? ⟨sz, 1, none⟩ = some (.int .i64 (ind : Int)) ∧ w'.cell? ⟨sz, 2, none⟩ = some (.int .i64 (ins : Int)))) := fun w' f => by
    have N := ent_facts (f.at (by have := HLT.out; have := HMLT.out; omega) HEN.out)
    have P := place_facts (f.at (by have := HLT.out; have := HMLT.out; omega) HPL.out)
    exact ⟨N.n0, P.p1, P.p2⟩
  obtain ⟨z0, z1, z2⟩ := HS3.out wd (Wr.refl _ _)
  have HRDD : Hid (Rdr wd.drew b R line) := HRD.out.move (Fresh.refl wd).drew
  have HGWD : Hid (Wr (fun k => k = b ∨ k = mp) w wd.drew) := HGW.out.drew
  have HPL0 := v.lt_of_at HPB.out
  have HPBL : Hid (sz + 2 < wd.heap.size) := HPL0
  clear HPL0
  have HDD : Hid (Wr (fun k => k = b ∨ k = mp) wd wd.drew) := (Wr.refl _ wd).drew
  have hwrap : IntKind.i64.wrap ((ins : Int) + 1) = (ins : Int) + 1 := IntWalk.i64_in _ (by omega)
  have HQ2 : Hid (∀ W : World, Wr (fun k => k = b ∨ k = mp) w W → Rdr W b R line → Calls Tryz.prog 55 #[.pointer (some ⟨b, 0, none⟩), .int .i64 (ind : Int), .int .i64 ((ins : Int) + 1)] W (BlkP W b x R')) := fun W f hr => (HQ.out W f hr).mono fun e w' k => blkP k
  clear HQ
  have HS5 : Hid (∀ W1 : World, Wr (fun k => k = b ∨ k = mp) wd W1 → ∀ u0 u1 u2 u3 u4 u5 u6 : Value, ((((((((W1.setCell ⟨sz + 1 + 1, 0, none⟩ u0).setCell ⟨sz + 1 + 1, 1, none⟩ u1).setCell ⟨sz + 1 + 1, 2, none⟩ u2).setCell ⟨sz + 1 + 1, 3, none⟩ u3).setCell ⟨sz + 1 + 1, 4, none⟩ u4).setCell ⟨sz + 1 + 1, 5, none⟩ u5).setCell ⟨sz + 1 + 1, 6, none⟩ u6).cell? ⟨sz + 1, 0, none⟩ = some (.string (tx key)) ∧ (((((((W1.setCell ⟨sz + 1 + 1, 0, none⟩ u0).setCell ⟨sz + 1 + 1, 1, none⟩ u1).setCell ⟨sz + 1 + 1, 2, none⟩ u2).setCell ⟨sz + 1 + 1, 3, none⟩ u3).setCell ⟨sz + 1 + 1, 4, none⟩ u4).setCell ⟨sz + 1 + 1, 5, none⟩ u5).setCell ⟨sz + 1 + 1, 6, none⟩ u6).cell? ⟨sz, 1, none⟩ = some (.int .i64 (ind : Int)) ∧ (((((((W1.setCell ⟨sz + 1 + 1, 0, none⟩ u0).setCell ⟨sz + 1 + 1, 1, none⟩ u1).setCell ⟨sz + 1 + 1, 2, none⟩ u2).setCell ⟨sz + 1 + 1, 3, none⟩ u3).setCell ⟨sz + 1 + 1, 4, none⟩ u4).setCell ⟨sz + 1 + 1, 5, none⟩ u5).setCell ⟨sz + 1 + 1, 6, none⟩ u6).cell? ⟨sz, 2, none⟩ = some (.int .i64 (ins : Int)))) := fun W1 f u0 u1 u2 u3 u4 u5 u6 =>
    HS3.out _ ((f.mono (q := fun k => (k = b ∨ k = mp) ∨ k = sz + 2) fun i e => Or.inl e).set7 (g := sz + 1 + 1) (.inl (.inr rfl)) u0 u1 u2 u3 u4 u5 u6)
  go_wp2_with fail
  go_region_held (fun w' => (w'.cell? ⟨sz + 1, 0, none⟩ = some (.string (tx key)) ∧ w'.cell? ⟨sz, 1, none⟩ = some (.int .i64 (ind : Int)) ∧ w'.cell? ⟨sz, 2, none⟩ = some (.int .i64 (ins : Int)))) (first | (go_keep; done) | exact HS5.out _ HF2.out _ _ _ _ _ _ _)
    (first
      | (go_at_call 55; (with_reducible refine (HQ2.out _ HGWD.out HRDD.out).mono ?_); rintro e W1 (⟨er, hx, rfl, hf1⟩ | ⟨y, mk, mf, mn, ms, mla, mlc, ml, mka, mkc, mks, rfl, hy, hf1⟩); exact ⟨rfl, by rw [hx]; exact ⟨rfl, HGWD.out.trans (hf1.mono fun i e => .inl e)⟩⟩; have HF1 := Lib.hid hf1; have HY := Lib.hid hy; have HF2 : Hid (Wr (fun k => k = b ∨ k = mp) wd W1) := HDD.out.trans (hf1.mono fun i e => .inl e); obtain ⟨y0, y1, y2⟩ := HS3.out W1 (HF2.out.mono fun i e => .inl e); obtain ⟨c0, c1, c2, c3, c4, c5, c6, f, lt⟩ := pb_facts (g := sz + 1 + 1) (HF2.out.at (by have := HLT.out; have := HMLT.out; omega) HPB.out); have f0 := f 0; have f1 := f 1; have f2 := f 2; have f3 := f 3; have f4 := f 4; have f5 := f 5; have f6 := f 6; clear hf1 hy f))
  go_wp2
  obtain ⟨hx, hpl, hnw, line', hrl⟩ := HY.out
  refine bodyPost_ret (v := .agg #[.string (tx key), .int .i64 mk, .bool mf, .int .i64 mn, .string ms, .slice mla ml.length mlc, .slice mka mks.length mkc]) (by simp [results, Tryz.results116, go_sem, *]) rfl ?_
  rw [hx]
  exact pair_close (m := v.M.mk mk mf mn ms mla mlc ml mka mkc mks) HLT.out HMLT.out HSZ.out HGWD.out HPBL.out hpl hnw hrl (seen_wr (w := wd.drew) HSD.out HF1.out (by have := HMB.out; omega)) (HF1.out.mono fun i e => .inl e) _ _ _ _ _ _ _
theorem pair_behind_p (b mp : Nat) (R : List Rw) (line ind ins : Nat) (ar : Int) (d : Bool) (key bh : List UInt8) (w : World) (h : Rdr w b R line) (hk : key.length ≤ 100000) (hkey : keyB key = true) (k : Nat) (L : List ByteArray) (hs : v.seenIs w mp k L) (hk1 : k ≤ 1000000) (hmb : b < mp) (hi : ins < 32) (hl : ¬ 4096 < key.length) (hm : v.inB (tx key) L = false)
    (x : Res) (R' : List Rw) (he : bh ≠ []) (hq : ∀ W : World, Wr (fun k => k = b ∨ k = mp) w W → Rdr W b R line → Calls Tryz.prog 117 #[.pointer (some ⟨b, 0, none⟩), .string (tx bh), .int .i64 ((ins : Int) + 1)] W (BlkIs W b x R')) :
    Calls Tryz.prog 116 #[.pointer (some ⟨b, 0, none⟩), placeV ar ind ins d, entV ⟨key, false, bh⟩, .map (some mp)] w (PairIs w b mp k L key (withRows x R')) := by
  have H := Lib.hid h
  have HS := Lib.hid hs
  have HQ := Lib.hid hq
  have HLT := Lib.hid h.lt
  have HMLT := Lib.hid hs.lt
  have HMB := Lib.hid hmb
  have HK1 := Lib.hid hk1
  have HB := Lib.hid (boxes3_new w ar ind ins d ⟨key, false, bh⟩)
  have g1 : ¬ 4096 < (tx key).size := by rw [tx_size]; exact hl
  have g2 : (tx key).size ≤ 100000 := by rw [tx_size]; exact hk
  have HM := Lib.hid hm
  have e1 : (tx bh).toList.isEmpty = false := by rw [tx_list]; cases bh with | nil => exact absurd rfl he | cons c r => rfl
  have HKY : Hid (∀ W : World, Calls Tryz.prog 12 #[.string (tx key)] W fun e w' => e = .returned (.bool true) ∧ Fresh W w') := fun W => by
    have := key_any key W (by omega)
    rw [hkey] at this
    exact this
  clear h hk hkey hl hs hm hq hmb hk1 he
  unfold placeV entV
  dsimp only
  go_enter Tryz.func116, Tryz.ntmps116
  go_upto_region 1 with (fail)
  generalize ((w.alloc (placeO ar ind ins d)).alloc (entO ⟨key, false, bh⟩)).alloc (.cells pcellZ 54 (0, 0)) = w0 at *
  generalize hsz : w.heap.size = sz at *
  have HSZ := Lib.hid hsz
  clear hsz
  obtain ⟨m0, m1, m2, ml⟩ := ent_facts HB.out.en
  go_wp2_with fail
  refine (HKY.out _).mono ?_
  rintro e wc ⟨rfl, hf⟩
  have HFC : Hid (Fresh w0 wc) := hf
  obtain ⟨n0, n1, n2, nl⟩ := ent_facts (v.Fresh.at hf HB.out.en)
  clear hf m0 m1 m2 ml HKY
  have HR : Hid (Rdr wc b R line) := H.out.move (HB.out.fr.trans HFC.out)
  have HSC : Hid (v.seenIs wc mp k L) := seen_wr HS.out (p := fun _ => False) (.of_fresh (HB.out.fr.trans HFC.out)) id
  have hlook := HSC.out.look (tx key) (by omega)
  rw [HM.out] at hlook
  obtain ⟨D, hown, hD⟩ := HSC.out
  have HO := Lib.hid hown
  have HD := Lib.hid hD
  clear hown hD
  go_wp2_with (at_mapUpdate; refine wpList_mapUpdate_own _ rfl _ _ _ 165 rfl 9 4 v.law9 Tryz.underlying165 v.boolR mp k D rfl HO.out (by have := HK1.out; unfold maxLen; omega) _ _ _ rfl rfl (v.key_of (tx key) (by omega)) _ [] rfl ?_; intro wd ho5 hg5; have HO5 := Lib.hid ho5; have HG5 := Lib.hid hg5; clear ho5 hg5 hlook; obtain ⟨n0', n1', n2', nl'⟩ := ent_facts ((Boxes3.wr HB.out (Wr.grown (p := fun k => k = mp) (.of_fresh HFC.out) HG5.out (fun g e => .inl (by injection e with e; exact e.symm))) (fun k hk e => by have := HMLT.out; omega)).2.1); clear n0 n1 n2 nl)
  have HGD : Hid (Wr (fun k => k = mp) w0 wd) := Wr.grown (p := fun k => k = mp) (.of_fresh HFC.out) HG5.out (fun g e => .inl (by injection e with e; exact e.symm))
  have HRD : Hid (Rdr wd b R line) := (H.out.move HB.out.fr).keep HGD.out (fun k hk e => by have := HMB.out; omega)
  have HSD : Hid (v.seenIs wd mp (k + 1) (L ++ [tx key])) := ⟨_, HO5.out, fun s => v.seen_put HO.out.isMap HD.out (tx key) (by omega) s⟩
  have KB := HB.out.wr HGD.out (fun k hk e => by have := HMLT.out; omega)
  have HGW : Hid (Wr (fun k => k = b ∨ k = mp) w wd) := (Wr.of_fresh HB.out.fr).trans (HGD.out.mono fun i e => .inr e)
  have HPL := Lib.hid KB.1
  have HEN := Lib.hid KB.2.1
  have HPB := Lib.hid KB.2.2
  clear KB HO HD HO5 HG5 HGD HSC HFC HR HM n0' n1' n2' nl'
  have HS3 : Hid (∀ w' : World, Wr (fun k => (k = b ∨ k = mp) ∨ k = sz + 2) wd w' → (w'.cell? ⟨sz + 1, 0, none⟩ = some (.string (tx key)) ∧ w'.cell? ⟨sz + 1, 2, none⟩ = some (.string (tx bh)) ∧ w'.cell? ⟨sz, 2, none⟩ = some (.int .i64 (ins : Int)))) := fun w' f => by
    have N := ent_facts (f.at (by have := HLT.out; have := HMLT.out; omega) HEN.out)
    have P := place_facts (f.at (by have := HLT.out; have := HMLT.out; omega) HPL.out)
    exact ⟨N.n0, N.n2, P.p2⟩
  obtain ⟨z0, z1, z2⟩ := HS3.out wd (Wr.refl _ _)
  have HRDD : Hid (Rdr wd.drew b R line) := HRD.out.move (Fresh.refl wd).drew
  have HGWD : Hid (Wr (fun k => k = b ∨ k = mp) w wd.drew) := HGW.out.drew
  have HPL0 := v.lt_of_at HPB.out
  have HPBL : Hid (sz + 2 < wd.heap.size) := HPL0
  clear HPL0
  have HDD : Hid (Wr (fun k => k = b ∨ k = mp) wd wd.drew) := (Wr.refl _ wd).drew
  have hwrap : IntKind.i64.wrap ((ins : Int) + 1) = (ins : Int) + 1 := IntWalk.i64_in _ (by omega)
  have HQ2 : Hid (∀ W : World, Wr (fun k => k = b ∨ k = mp) w W → Rdr W b R line → Calls Tryz.prog 117 #[.pointer (some ⟨b, 0, none⟩), .string (tx bh), .int .i64 ((ins : Int) + 1)] W (BlkP W b x R')) := fun W f hr => (HQ.out W f hr).mono fun e w' k => blkP k
  clear HQ
  have HS5 : Hid (∀ W1 : World, Wr (fun k => k = b ∨ k = mp) wd W1 → ∀ u0 u1 u2 u3 u4 u5 u6 : Value, ((((((((W1.setCell ⟨sz + 1 + 1, 0, none⟩ u0).setCell ⟨sz + 1 + 1, 1, none⟩ u1).setCell ⟨sz + 1 + 1, 2, none⟩ u2).setCell ⟨sz + 1 + 1, 3, none⟩ u3).setCell ⟨sz + 1 + 1, 4, none⟩ u4).setCell ⟨sz + 1 + 1, 5, none⟩ u5).setCell ⟨sz + 1 + 1, 6, none⟩ u6).cell? ⟨sz + 1, 0, none⟩ = some (.string (tx key)) ∧ (((((((W1.setCell ⟨sz + 1 + 1, 0, none⟩ u0).setCell ⟨sz + 1 + 1, 1, none⟩ u1).setCell ⟨sz + 1 + 1, 2, none⟩ u2).setCell ⟨sz + 1 + 1, 3, none⟩ u3).setCell ⟨sz + 1 + 1, 4, none⟩ u4).setCell ⟨sz + 1 + 1, 5, none⟩ u5).setCell ⟨sz + 1 + 1, 6, none⟩ u6).cell? ⟨sz + 1, 2, none⟩ = some (.string (tx bh)) ∧ (((((((W1.setCell ⟨sz + 1 + 1, 0, none⟩ u0).setCell ⟨sz + 1 + 1, 1, none⟩ u1).setCell ⟨sz + 1 + 1, 2, none⟩ u2).setCell ⟨sz + 1 + 1, 3, none⟩ u3).setCell ⟨sz + 1 + 1, 4, none⟩ u4).setCell ⟨sz + 1 + 1, 5, none⟩ u5).setCell ⟨sz + 1 + 1, 6, none⟩ u6).cell? ⟨sz, 2, none⟩ = some (.int .i64 (ins : Int)))) := fun W1 f u0 u1 u2 u3 u4 u5 u6 =>
    HS3.out _ ((f.mono (q := fun k => (k = b ∨ k = mp) ∨ k = sz + 2) fun i e => Or.inl e).set7 (g := sz + 1 + 1) (.inl (.inr rfl)) u0 u1 u2 u3 u4 u5 u6)
  go_wp2_with fail
  go_region_held (fun w' => (w'.cell? ⟨sz + 1, 0, none⟩ = some (.string (tx key)) ∧ w'.cell? ⟨sz + 1, 2, none⟩ = some (.string (tx bh)) ∧ w'.cell? ⟨sz, 2, none⟩ = some (.int .i64 (ins : Int)))) (first | (go_keep; done) | exact HS5.out _ HF2.out _ _ _ _ _ _ _)
    (first
      | (go_at_call 117; (with_reducible refine (HQ2.out _ HGWD.out HRDD.out).mono ?_); rintro e W1 (⟨er, hx, rfl, hf1⟩ | ⟨y, mk, mf, mn, ms, mla, mlc, ml, mka, mkc, mks, rfl, hy, hf1⟩); exact ⟨rfl, by rw [hx]; exact ⟨rfl, HGWD.out.trans (hf1.mono fun i e => .inl e)⟩⟩; have HF1 := Lib.hid hf1; have HY := Lib.hid hy; have HF2 : Hid (Wr (fun k => k = b ∨ k = mp) wd W1) := HDD.out.trans (hf1.mono fun i e => .inl e); obtain ⟨y0, y1, y2⟩ := HS3.out W1 (HF2.out.mono fun i e => .inl e); obtain ⟨c0, c1, c2, c3, c4, c5, c6, f, lt⟩ := pb_facts (g := sz + 1 + 1) (HF2.out.at (by have := HLT.out; have := HMLT.out; omega) HPB.out); have f0 := f 0; have f1 := f 1; have f2 := f 2; have f3 := f 3; have f4 := f 4; have f5 := f 5; have f6 := f 6; clear hf1 hy f))
  go_wp2
  obtain ⟨hx, hpl, hnw, line', hrl⟩ := HY.out
  refine bodyPost_ret (v := .agg #[.string (tx key), .int .i64 mk, .bool mf, .int .i64 mn, .string ms, .slice mla ml.length mlc, .slice mka mks.length mkc]) (by simp [results, Tryz.results116, go_sem, *]) rfl ?_
  rw [hx]
  exact pair_close (m := v.M.mk mk mf mn ms mla mlc ml mka mkc mks) HLT.out HMLT.out HSZ.out HGWD.out HPBL.out hpl hnw hrl (seen_wr (w := wd.drew) HSD.out HF1.out (by have := HMB.out; omega)) (HF1.out.mono fun i e => .inl e) _ _ _ _ _ _ _
end y
namespace y
open Go.ChangeShapes Go.WideShapes Go.ChangeAt Go.RowKit
variable {w : World}
theorem base_fresh2 {we w W : World} {b mp : Nat} (hfe : Fresh we w) (hwe : we.heap.size ≤ b) (hm : b < mp) (f : Wr (fun k => k = b ∨ k = mp) w W) : Fresh we W :=
  Wr.toFresh (p := fun k => we.heap.size ≤ k) ((Wr.of_fresh hfe).then f (fun i e => .inl (by omega))) (fun k hk e => by omega)
theorem cast_succ (n : Nat) : ((n + 1 : Nat) : Int) = (n : Int) + 1 := by omega
theorem sc_blk {W : World} {b line : Nat} {R : List Rw} {x : Int × v.V} {e : Ending} {w' : World} (hr : Rdr W b R line) (hp : x.2.list = [] ∧ x.2.keys = []) (hs : x.2.text.size ≤ 1000000) (h : ScIs W line x e w') :
    BlkIs W b (if x.1 ≠ 0 then .error (line, x.1) else .ok x.2) R e w' := by
  obtain ⟨h1, h2, h3⟩ := h
  by_cases hx : x.1 = 0
  · rw [if_neg (by simp [hx])]
    exact ⟨⟨flatM x.2, line, h2 hx, flat_plain _ hp, flat_new _ _ _ hs, hr.move h3⟩, .of_fresh h3⟩
  · rw [if_pos hx]
    exact ⟨h1 hx, .of_fresh h3⟩
theorem pair_any (n : Nat) (ih : SayBlk n) (we : World) (b mp k : Nat) (L : List ByteArray) (R : List Rw) (line ind ins : Nat) (ar : Int) (d : Bool) (m : Ent) (w : World) (hE : Env we) (hwe : we.heap.size ≤ b) (hfe : Fresh we w) (hsg : (seg ind R).length ≤ n) (hR : Fine R) (hi : ins < 32)
    (h : Rdr w b R line) (hs : v.seenIs w mp k L) (hk1 : k ≤ 1000000) (hmb : b < mp) (hk : m.key.length ≤ 90000) (hbh : m.behind.length ≤ 90000) :
    Calls Tryz.prog 116 #[.pointer (some ⟨b, 0, none⟩), placeV ar ind ins d, entV m, .map (some mp)] w (PairIs w b mp k L m.key (pairM ind ins line m R L)) := by
  obtain ⟨key, q, bh⟩ := m
  dsimp only at hk hbh ⊢
  have hbl : ∀ W : World, Wr (fun k => k = b ∨ k = mp) w W → Rdr W b R line → Calls Tryz.prog 55 #[.pointer (some ⟨b, 0, none⟩), .int .i64 (ind : Int), .int .i64 ((ins : Int) + 1)] W (BlkIs W b (blk (seg ind R) (ins + 1)) (off ind R)) := fun W f hr => by
    have := ih we b R line (ins + 1) ind W hE hwe (base_fresh2 hfe hwe hmb f) hsg hR (by omega) hr
    rw [cast_succ] at this
    exact this
  have hsc : bh ≠ [] → ∀ W : World, Wr (fun k => k = b ∨ k = mp) w W → Rdr W b R line → Calls Tryz.prog 117 #[.pointer (some ⟨b, 0, none⟩), .string (tx bh), .int .i64 ((ins : Int) + 1)] W (BlkIs W b (if (scM bh (ins + 1)).1 ≠ 0 then .error (line, (scM bh (ins + 1)).1) else .ok (scM bh (ins + 1)).2) R) := fun hne W f hr => by
    have := scalar_any b R line bh (ins + 1) W hr (hE.move (base_fresh2 hfe hwe hmb f)) hne hbh
    rw [cast_succ] at this
    exact this.mono fun e w' k => sc_blk hr (scM_flat bh (ins + 1)) (Nat.le_trans (scM_size bh (ins + 1) hbh) (by decide)) k
  have bad : ∀ (c : Int) (e : Ending) (w' : World), c ≠ 0 → keyE ⟨key, q, bh⟩ L = c → Panics line c e ∧ Fresh w w' → PairIs w b mp k L key (pairM ind ins line ⟨key, q, bh⟩ R L) e w' := fun c e w' hc he k => by
    have hM : pairM ind ins line ⟨key, q, bh⟩ R L = .error (line, c) := by rw [pairM, if_pos (by rw [he]; exact hc), he]
    rw [hM]
    exact ⟨k.1, .of_fresh k.2⟩
  by_cases h1 : q = false ∧ keyB key = false
  · obtain ⟨rfl, hkb⟩ := h1
    exact (pair_form b mp R line ind ins ar d key bh w h (by omega) hkb).mono fun e w' k => bad 6 e w' (by decide) (by rw [keyE, if_pos ⟨rfl, hkb⟩]) k
  by_cases h2 : 4096 < key.length
  · have hE2 : keyE ⟨key, q, bh⟩ L = 2 := by rw [keyE, if_neg h1, if_pos h2]
    cases q with
    | true => exact (pair_long_q b mp R line ind ins ar d key bh w h (by omega) h2).mono fun e w' k => bad 2 e w' (by decide) hE2 k
    | false => exact (pair_long_p b mp R line ind ins ar d key bh w h (by omega) (by cases hq : keyB key with | true => rfl | false => exact absurd ⟨rfl, hq⟩ h1) h2).mono fun e w' k => bad 2 e w' (by decide) hE2 k
  cases h3 : v.inB (tx key) L with
  | true =>
    have hE8 : keyE ⟨key, q, bh⟩ L = 8 := by rw [keyE, if_neg h1, if_neg h2, if_pos h3]
    cases q with
    | true => exact (pair_twice_q b mp R line ind ins ar d key bh w h (by omega) k L hs h2 h3).mono fun e w' k => bad 8 e w' (by decide) hE8 k
    | false => exact (pair_twice_p b mp R line ind ins ar d key bh w h (by omega) (by cases hq : keyB key with | true => rfl | false => exact absurd ⟨rfl, hq⟩ h1) k L hs h2 h3).mono fun e w' k => bad 8 e w' (by decide) hE8 k
  | false =>
    have hE0 : keyE ⟨key, q, bh⟩ L = 0 := by rw [keyE, if_neg h1, if_neg h2, if_neg (by rw [h3]; exact Bool.false_ne_true)]
    by_cases h4 : bh = []
    · have hM : pairM ind ins line ⟨key, q, bh⟩ R L = withRows (blk (seg ind R) (ins + 1)) (off ind R) := by
        rw [pairM, if_neg (by simp [hE0]), if_pos h4]
        cases blk (seg ind R) (ins + 1) <;> rfl
      rw [hM]
      cases q with
      | true => exact pair_below_q b mp R line ind ins ar d key bh w h (by omega) k L hs hk1 hmb hi h2 h3 _ _ h4 hbl
      | false => exact pair_below_p b mp R line ind ins ar d key bh w h (by omega) (by cases hq : keyB key with | true => rfl | false => exact absurd ⟨rfl, hq⟩ h1) k L hs hk1 hmb hi h2 h3 _ _ h4 hbl
    · have hM : pairM ind ins line ⟨key, q, bh⟩ R L = withRows (if (scM bh (ins + 1)).1 ≠ 0 then .error (line, (scM bh (ins + 1)).1) else .ok (scM bh (ins + 1)).2) R := by
        rw [pairM, if_neg (by simp [hE0]), if_neg h4]
        by_cases hx : (scM bh (ins + 1)).1 = 0
        · rw [if_neg (by simp [hx]), if_neg (by simp [hx])]; rfl
        · rw [if_pos hx, if_pos hx]; rfl
      rw [hM]
      cases q with
      | true => exact pair_behind_q b mp R line ind ins ar d key bh w h (by omega) k L hs hk1 hmb hi h2 h3 _ _ h4 (hsc h4)
      | false => exact pair_behind_p b mp R line ind ins ar d key bh w h (by omega) (by cases hq : keyB key with | true => rfl | false => exact absurd ⟨rfl, hq⟩ h1) k L hs hk1 hmb hi h2 h3 _ _ h4 (hsc h4)
theorem lead_len (l : List UInt8) : (lead l).length ≤ l.length := by unfold lead; rw [List.length_drop]; omega
theorem entM_len {l : List UInt8} {m : Ent} (h : entM l = (0, some m)) (hl : l.length ≤ 90000) : m.key.length ≤ 90000 ∧ m.behind.length ≤ 90000 := by
  unfold entM at h
  split at h
  · rename_i h34
    split at h
    · simp at h
    · cases l with
      | nil => cases h34
      | cons c q =>
        have hc : c = 34 := by simpa using h34
        subst hc
        have h1 := unq_len q
        have hd : ((34 :: q).drop (unqF (34 :: q)).2.1).length ≤ 90000 := by rw [List.length_drop]; omega
        generalize (34 :: q).drop (unqF (34 :: q)).2.1 = d at *
        cases d with
        | nil => cases h
        | cons a t =>
          simp only [restE] at h
          split at h
          · simp only [Prod.mk.injEq, Option.some.injEq, true_and] at h
            subst h
            have := lead_len t
            simp only [List.length_cons] at hd
            exact ⟨by show (unqF (34 :: q)).1.length ≤ 90000; omega, by show (lead t).length ≤ 90000; omega⟩
          · cases h
  · split at h
    · cases h
    · rename_i i _
      simp only [Prod.mk.injEq, Option.some.injEq, true_and] at h
      subst h
      have := lead_len (l.drop (i + 1))
      rw [List.length_drop] at this
      exact ⟨by show (l.take i).length ≤ 90000; rw [List.length_take]; omega, by show (lead (l.drop (i + 1))).length ≤ 90000; omega⟩
theorem pairM_rows {ind ins line : Nat} {m : Ent} {R : List Rw} {L : List ByteArray} {y : v.V} {R2 : List Rw} (h : pairM ind ins line m R L = .ok (y, R2)) : R2 = off ind R ∨ R2 = R := by
  unfold pairM at h
  split at h
  · cases h
  split at h
  · split at h
    · cases h
    · cases h; exact .inl rfl
  split at h
  · cases h
  · cases h; exact .inr rfl
theorem pairs_bad {ind ins : Nat} {r : Rw} {T : List Rw} {acc : List (ByteArray × v.V)} (h : r.indent ≠ ind ∨ (r.indent = ind ∧ r.dash ≠ false)) : pairs ind ins (r :: T) acc = .error (r.line, 6) := by
  rw [pairs, if_pos (by rcases h with h | ⟨_, h⟩; exact .inl h; exact .inr (by simpa using h))]
theorem pairs_nil {ind ins : Nat} {acc : List (ByteArray × v.V)} : pairs ind ins [] acc = .ok (vKeys acc) := by rw [pairs]
theorem pairs_code {ind ins : Nat} {r : Rw} {T : List Rw} {acc : List (ByteArray × v.V)} (h1 : r.indent = ind) (h2 : r.dash = false) (h : (entM r.text).1 ≠ 0) : pairs ind ins (r :: T) acc = .error (r.line, (entM r.text).1) := by
  rw [pairs, if_neg (by simp [h1, h2]), if_pos h]
theorem pairs_none {ind ins : Nat} {r : Rw} {T : List Rw} {acc : List (ByteArray × v.V)} (h1 : r.indent = ind) (h2 : r.dash = false) (h : entM r.text = (0, none)) : pairs ind ins (r :: T) acc = .error (r.line, 6) := by
  rw [pairs, if_neg (by simp [h1, h2]), if_neg (by rw [h]; simp), h]
theorem pcells_one' (p : ByteArray × v.M) : (v.pcellsOf p).length = 7 := by simp [v.pcellsOf, v.cells_length]
theorem own_oneP (w1 : World) (p : ByteArray × v.M) (B : Nat) (hB : B ≤ w1.heap.size) : (w1.alloc (.cells (v.pcellsOf p).toArray 54)).ownsRow B 54 7 (.slice (some ⟨w1.heap.size, 0, none⟩) 1 1) 1 (v.pcells [p]) := by
  have h := v.owns_built (n := 1) (k := 7) (v.at_new w1 (.cells (v.pcellsOf p).toArray 54)) hB (by simp [pcells_one']) (by unfold maxLen; omega)
  have e : v.pcells [p] = (v.pcellsOf p).toArray.toList := by simp [v.pcells]
  rw [e]; exact h
theorem owns_wr2 {p : Nat → Prop} {B : Nat} {t : TypeId} {k n : Nat} {w w' : World} {u : Value} {xs : List Value} (h : w.ownsRow B t k u n xs) (f : Wr p w w') (hb : ∀ k, p k → k < B) : w'.ownsRow B t k u n xs := by
  refine ⟨h.1, ?_⟩
  rcases h.2 with hn | ⟨g, cap, cur, rfl, hB, hgg, rest⟩
  · exact .inl hn
  · exact .inr ⟨g, cap, cur, rfl, hB, f.at (fun hp => by have := hb g hp; omega) hgg, rest⟩
def plainP (p : ByteArray × v.M) : ByteArray × v.V := (p.1, p.2.plain)
theorem plainP_names (xs : List (ByteArray × v.M)) : (xs.map plainP).map (·.1) = xs.map (·.1) := by rw [List.map_map]; rfl
structure BoxesK (w w0 : World) (sz : Nat) (ar : Int) (ind ins : Nat) (m : Ent) : Prop where
  eq : w.heap.size = sz
  pl : w0.heap[sz]? = some (placeO ar ind ins false)
  en : w0.heap[sz + 1]? = some (entO m)
  vb : VBox w0 (sz + 2)
  fr : Fresh w w0
theorem boxesK_new (w : World) (ar : Int) (ind ins : Nat) (m : Ent) : BoxesK w (((w.alloc (placeO ar ind ins false)).alloc (entO m)).alloc (.cells zcells 27 (0, 0))) w.heap.size ar ind ins m := by
  have h1 := v.at_new (w.alloc (placeO ar ind ins false)) (entO m)
  have h2 := v.at_new ((w.alloc (placeO ar ind ins false)).alloc (entO m)) (.cells zcells 27 (0, 0))
  rw [World.size_alloc] at h1
  rw [World.size_alloc, World.size_alloc] at h2
  exact ⟨rfl, v.at_alloc (v.at_alloc (v.at_new w _)), v.at_alloc h1, h2, (((Fresh.refl w).alloc _).alloc _).alloc _⟩
structure KeysAt (w W : World) (b sz : Nat) (mp : Nat) (ar : Int) (ind ins n : Nat) (r : Rw) (T : List Rw) (xs : List (ByteArray × v.M)) (R' : List Rw) (line' : Nat) (a : Option Addr) (c : Nat) : Prop where
  rd : Rdr W b R' line'
  fine : Fine R'
  own : W.ownsRow (mp + 1) 54 7 (.slice a xs.length c) xs.length (v.pcells xs)
  ms : ∀ p ∈ xs, p.2.Off mp (Value.slice a xs.length c).ownBlock W
  ks : ∀ p ∈ xs, p.1.size ≤ 1000000
  pl : W.heap[sz]? = some (placeO ar ind ins false)
  vb : VBox W (sz + 2)
  sn : v.seenIs W mp xs.length (xs.map (·.1))
  wr : Wr (fun k => k = b) w W
  sg : (seg ar R').length ≤ n
  len : xs.length + R'.length ≤ T.length + 1
  eq : pairs ind ins (r :: seg ar T) [] = pairs ind ins (seg ar R') (xs.map plainP)
  ofs : off ar R' = off ar T
  ne : 0 < xs.length
  low : b < sz
  mpz : sz + 3 ≤ mp
theorem KeysAt.row {w W : World} {b sz mp : Nat} {ar : Int} {ind ins n : Nat} {r : Rw} {T : List Rw} {xs : List (ByteArray × v.M)} {R' : List Rw} {line' : Nat} {a : Option Addr} {c : Nat} (h : KeysAt w W b sz mp ar ind ins n r T xs R' line' a c) : ∃ g, a = some ⟨g, 0, none⟩ := by
  have hne := h.ne
  rcases h.own.2 with ⟨e, e2⟩ | ⟨g, cap, cur, e, _⟩
  · omega
  · injection e with e
    exact ⟨g, e⟩
theorem KeysAt.done {w W W3 : World} {b sz mp : Nat} {ar : Int} {ind ins n : Nat} {r : Rw} {T : List Rw} {xs : List (ByteArray × v.M)} {R' : List Rw} {line' : Nat} {a : Option Addr} {c : Nat} (h : KeysAt w W b sz mp ar ind ins n r T xs R' line' a c) (hb : hasB ar R' = false) (hbig : T.length + 1 ≤ 1000000)
    {a' : Option Addr} {c' : Nat} (f : Fresh W W3) (hra : v.RowAt W3 a' (v.pcells xs)) (hsep : ∀ ad : Addr, a' = some ad → mp + 1 ≤ ad.block) :
    pairs ind ins (r :: seg ar T) [] = .ok (vKeys (xs.map plainP)) ∧ off ar T = R' ∧ (v.M.mk 5 false 0 ⟨#[]⟩ none 0 [] a' c' xs).plain = vKeys (xs.map plainP) ∧ (v.M.mk 5 false 0 ⟨#[]⟩ none 0 [] a' c' xs).New (mp + 1) W3 := by
  obtain ⟨h1, h2⟩ := off_none hb
  refine ⟨by rw [h.eq, h1, pairs_nil], by rw [← h.ofs, h2], ?_, ?_⟩
  · show v.V.mk 5 false 0 ⟨#[]⟩ (v.plainL []) (v.plainK xs) = _
    rw [v.plainK_eq]; rfl
  · refine .mk (by decide) (.nil _) (v.row_new hra hsep) (by simp) ?_ h.ks (fun _ h => by cases h) ?_
    · have := h.len
      omega
    · intro p hp
      exact ((h.ms p hp).move f).new (N := mp + 1) (by omega)
theorem KeysAt.more {w W W2 W3 W4 : World} {b sz mp : Nat} {ar : Int} {ind ins n : Nat} {r : Rw} {T : List Rw} {xs : List (ByteArray × v.M)} {r2 : Rw} {T2 R2 : List Rw} {line' l2 : Nat} {a : Option Addr} {c : Nat} {e : Ent} {m : v.M} {y : v.V} {g cap : Nat}
    (h : KeysAt w W b sz mp ar ind ins n r T xs (r2 :: T2) line' a c) (hw : w.heap.size = sz) (har : ar ≤ (ind : Int)) (hb : hasB ar (r2 :: T2) = true) (h1 : r2.indent = ind) (h2 : r2.dash = false) (he : entM r2.text = (0, some e)) (hk : e.key.length ≤ 90000)
    (f2 : Wr (fun k => k = b) W W2) (hp : m.plain = y) (hy : pairM ind ins r2.line e T2 (xs.map (·.1)) = .ok (y, R2)) (hn : m.New W2.heap.size W3) (hr : Rdr W3 b R2 l2) (hs : v.seenIs W3 mp (xs.length + 1) (xs.map (·.1) ++ [tx e.key])) (f3 : Wr (fun k => k = b ∨ k = mp) W2 W3) (o : Obj)
    (how : W4.ownsRow (mp + 1) 54 7 (.slice (some ⟨g, 0, none⟩) (xs.length + 1) cap) (xs.length + 1) (v.pcells xs ++ v.pcellsOf (tx e.key, m))) (hg : (W3.alloc o).grownBy W4 (Value.slice a xs.length c).ownBlock) (hat : (Value.slice a xs.length c).ownBlock = some g ∨ g = (W3.alloc o).heap.size) :
    KeysAt w W4 b sz mp ar ind ins n r T (xs ++ [(tx e.key, m)]) R2 l2 (some ⟨g, 0, none⟩) cap := by
  have f : Wr (fun k => k = b ∨ k = mp) W W3 := (f2.mono fun i e => .inl e).trans f3
  have low := h.low
  have hmp := h.mpz
  have hs1 := f.size
  have hs2 := f2.size
  have hlt : ∀ k, (Value.slice a xs.length c).ownBlock = some k → mp + 1 ≤ k ∧ k < W.heap.size := fun k e => World.ownsRow.lt h.own k e
  have hsz : mp < W.heap.size := h.sn.lt
  have fa : Wr (fun k => k = b ∨ k = mp) W (W3.alloc o) := f.alloc o
  have fg : Wr (fun k => mp + 1 ≤ k) (W3.alloc o) W4 := (Wr.refl (fun k => mp + 1 ≤ k) _).grown hg (fun k e => .inl (hlt k e).1)
  obtain ⟨e1, e2, e3⟩ := seg_seg har T2
  obtain ⟨e4, e5⟩ := seg_cons hb
  have hR2 : off ar R2 = off ar T2 ∧ R2.length ≤ T2.length ∧ (seg ar R2).length ≤ (seg ar T2).length ∧ Fine R2 := by
    rcases pairM_rows hy with rfl | rfl
    · refine ⟨e3, off_len _ _, ?_, h.fine.tail.off ind⟩
      rw [← e2]; exact off_len _ _
    · exact ⟨rfl, Nat.le_refl _, Nat.le_refl _, h.fine.tail⟩
  obtain ⟨r1, r2', r3, r4⟩ := hR2
  refine ⟨?_, r4, ?_, ?_, ?_, ?_, ?_, ?_, ?_, ?_, ?_, ?_, ?_, by simp, low, hmp⟩
  · exact (hr.move ((Fresh.refl _).alloc o)).keep fg (fun k hk e => by omega)
  · rw [v.pcells_snoc, List.length_append]; exact how
  · intro x hx
    rcases List.mem_append.1 hx with hx | hx
    · have k := off_wr (h.ms x hx) fa (fun k e => by omega)
      rw [show (Value.slice (some ⟨g, 0, none⟩ : Option Addr) (xs ++ [(tx e.key, m)]).length cap).ownBlock = some g from rfl]
      exact k.grown hg hat
    · rw [List.mem_singleton] at hx
      subst hx
      have k := (hn.off (B := mp) (g := (Value.slice a xs.length c).ownBlock) (by omega) (fun k e => by have := (hlt k e).2; omega)).move ((Fresh.refl _).alloc o)
      exact k.grown hg hat
  · intro p hp2
    rcases List.mem_append.1 hp2 with hp2 | hp2
    · exact h.ks p hp2
    · rw [List.mem_singleton] at hp2
      subst hp2
      show (tx e.key).size ≤ 1000000
      rw [tx_size]; omega
  · exact fg.at (by omega) (fa.at (by omega) h.pl)
  · exact (h.vb.wr fa (by omega)).wr fg (by omega)
  · have k := seen_wr (hs.move (w' := W3.alloc o) (Below.heap_alloc W3 o mp (by omega))) fg (by omega)
    rw [List.length_append, List.map_append]
    exact k
  · have hwW : w.heap.size ≤ mp := by omega
    exact ((h.wr.then fa (fun k e => by rcases e with e | e; exact .inl e; exact .inr (by omega))).then fg (fun k e => by omega))
  · have h5 := h.sg
    rw [e4, List.length_cons] at h5
    omega
  · have h5 := h.len
    simp only [List.length_cons, List.length_append, List.length_nil] at h5 ⊢
    omega
  · rw [h.eq, e4, pairs_step har h1 h2 he, plainP_names, hy]
    simp only [List.map_append, List.map_cons, List.map_nil, plainP, hp]
  · rw [r1, ← e5]; exact h.ofs
end y
end Go.Proofs.YtcljplkkgpjhlaaGreatDoorR
