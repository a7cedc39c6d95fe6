/-
  Parts of the proof: YKeys YList YBlk YCatch YDoc.
-/
import Derived.Test.YtcljplkkgpjhlaaGreatDoorRCat21
import Derived.Test.YtcljplkkgpjhlaaGreatDoorRCat20
import Derived.Test.YtcljplkkgpjhlaaGreatDoorRCat18
import Derived.Defers
import Derived.Recover
set_option maxRecDepth 100000
set_option maxHeartbeats 8000000
namespace Go.Proofs.YtcljplkkgpjhlaaGreatDoorR
namespace y
open Go.ChangeShapes Go.WideShapes Go.ChangeAt Go.RowKit
attribute [local go_sem ↓] Go.wp_at_zero Go.wp_at_succ
variable {w : World}
theorem keys_deep (b : Nat) (r : Rw) (T : List Rw) (m : Ent) (ins : Nat) (ar : Int) (w : World) (h : Rdr w b T r.line) (hi : 32 ≤ ins) :
    Calls Tryz.prog 85 #[.pointer (some ⟨b, 0, none⟩), placeV ar r.indent ins false, entV m] w fun e w' => Panics r.line 9 e ∧ Fresh w w' := by
  have HM : Hid (∀ W : World, Fresh w W → Calls Tryz.prog 112 #[.pointer (some ⟨b, 0, none⟩), .int .i64 (ins : Int)] W fun e w' => Panics r.line 9 e ∧ Fresh W w') := fun W f => mayHold_no b T r.line ins W (h.move f) hi
  have HB := Lib.hid (boxesK_new w ar r.indent ins m)
  clear h hi
  unfold placeV entV
  go_enter Tryz.func85, Tryz.ntmps85
  go_wp2_with fail
  generalize ((w.alloc (placeO ar r.indent ins false)).alloc (entO m)).alloc (.cells zcells 27 (0, 0)) = w0 at *
  generalize w.heap.size = sz at *
  refine (HM.out _ HB.out.fr).mono ?_
  rintro e w1 ⟨hp, hf⟩
  have HF1 := Lib.hid (HB.out.fr.trans hf)
  clear hf
  unfold Panics at hp
  subst hp
  go_wp2
  exact ⟨rfl, rfl, HF1.out⟩
theorem keys_go (n : Nat) (ih : SayBlk n) (we : World) (b : Nat) (r : Rw) (T : List Rw) (m0 : Ent) (ins : Nat) (ar : Int) (w : World) (hE : Env we) (hwe : we.heap.size ≤ b) (hfe : Fresh we w) (hsg : (seg ar T).length ≤ n) (hR : Fine (r :: T)) (hi : ins < 32) (hd : r.dash = false) (he : entM r.text = (0, some m0)) (har : ar < (r.indent : Int)) (h : Rdr w b T r.line) :
    Calls Tryz.prog 85 #[.pointer (some ⟨b, 0, none⟩), placeV ar r.indent ins false, entV m0] w (BlkIs w b (pairs r.indent ins (r :: seg ar T) []) (off ar T)) := by
  obtain ⟨i0, z0, hii, hz0, hzc, hz1, hz2⟩ := v.info_seven v.info54
  have hmm := @run_makeMap Tryz.prog
  have HM := Lib.hid (fun W => mayHold_ok b ins W hi)
  obtain ⟨hk0, hb0⟩ := entM_len he (hR.head).2.2.1
  have HPA : Hid (∀ (mp k : Nat) (L : List ByteArray) (R : List Rw) (line : Nat) (m : Ent) (W : World), Wr (fun k => k = b) w W → (seg (r.indent : Int) R).length ≤ n → Fine R → Rdr W b R line → v.seenIs W mp k L → k ≤ 1000000 → b < mp → m.key.length ≤ 90000 → m.behind.length ≤ 90000 →
      Calls Tryz.prog 116 #[.pointer (some ⟨b, 0, none⟩), placeV ar r.indent ins false, entV m, .map (some mp)] W (PairIs W b mp k L m.key (pairM r.indent ins line m R L))) := fun mp k L R line m W f hs hf hr hsn hk1 hmb hk hbh =>
    pair_any n ih we b mp k L R line r.indent ins ar false m W hE hwe (base_fresh hfe hwe f) hs hf hi hr hsn hk1 hmb hk hbh
  have HEN : Hid (∀ (R : List Rw) (line : Nat) (l : List UInt8) (W : World), Wr (fun k => k = b) w W → Rdr W b R line → l ≠ [] → l.length ≤ 90000 → Trimmed l → Calls Tryz.prog 84 #[.pointer (some ⟨b, 0, none⟩), .string (tx l)] W (EntIs W line (entM l))) := fun R line l W f hr hne hl ht => entry_any b R line l W hr (hE.move (base_fresh hfe hwe f)) hne hl ht
  have HB := Lib.hid (boxesK_new w ar r.indent ins m0)
  have HLT := Lib.hid h.lt
  have H := Lib.hid h
  have HR := Lib.hid hR
  have HSG := Lib.hid hsg
  have HAR := Lib.hid har
  have HD := Lib.hid hd
  have HE0 := Lib.hid he
  have HK0 := Lib.hid hk0
  have HB0 := Lib.hid hb0
  have HBIG : Hid (T.length + 1 ≤ 1000000) := hR.len
  obtain ⟨ind, hind⟩ : ∃ ind : Nat, ind = r.indent := ⟨_, rfl⟩
  have HIND := Lib.hid hind
  rw [← hind] at HPA HB HAR
  unfold placeV entV
  rw [← hind]
  clear h hR hsg har hd hE hwe hfe ih hind he hk0 hb0
  go_enter Tryz.func85, Tryz.ntmps85
  go_wp2_with fail
  generalize ((w.alloc (placeO ar ind ins false)).alloc (entO m0)).alloc (.cells zcells 27 (0, 0)) = w0 at *
  generalize hsz : w.heap.size = sz at *
  have HSZ := Lib.hid hsz
  clear hsz
  obtain ⟨p0, p1, p2, p3, pl⟩ := place_facts HB.out.pl
  obtain ⟨n0, n1, n2, nl⟩ := ent_facts HB.out.en
  refine (HM.out _).mono ?_
  rintro e w1 ⟨rfl, rfl⟩
  clear HM
  go_wp2_with fail
  clear p0 p1 p2 p3 pl n0 n1 n2 nl hmm
  have HW0 : Hid (Wr (fun k => k = b) w (w0.alloc (.map #[] 0))) := (Wr.of_fresh HB.out.fr).alloc _
  have HSN0 : Hid (v.seenIs (w0.alloc (.map #[] 0)) w0.heap.size 0 []) := v.seen_made w0
  have HMZ : Hid (sz + 3 ≤ w0.heap.size) := v.lt_of_at HB.out.vb
  refine (HPA.out w0.heap.size 0 [] T r.line m0 _ HW0.out (Nat.le_trans (seg_seg_len (Int.le_of_lt HAR.out) T) HSG.out) HR.out.tail ((H.out.move HB.out.fr).move ((Fresh.refl _).alloc _)) HSN0.out (by omega) (by have := HLT.out; have := HMZ.out; omega) HK0.out HB0.out).mono ?_
  have HI : Hid (pairs ind ins (r :: seg ar T) [] = match pairM ind ins r.line m0 T [] with
    | .error e => .error e
    | .ok y => pairs ind ins (seg ar y.2) ([] ++ [(tx m0.key, y.1)])) := pairs_step (Int.le_of_lt HAR.out) HIND.out.symm HD.out HE0.out
  cases hx : pairM ind ins r.line m0 T [] with
  | error er =>
    rw [hx] at HI
    rintro e w1 ⟨hp, hg⟩
    have HG : Hid (Wr (fun k => k = b) w w1) := HW0.out.then hg (fun k e => by rcases e with e | e; exact .inl e; exact .inr (by have := HMZ.out; have := HSZ.out; omega))
    rw [HI.out]
    unfold Panics at hp
    subst hp
    clear hg hx HI
    go_wp2
    exact ⟨rfl, rfl, HG.out⟩
  | ok y =>
    obtain ⟨y, R2⟩ := y
    rw [hx] at HI
    rintro e w1 ⟨⟨m, l1, rfl, hp, hn, hr1, hs1⟩, hg⟩
    have HG : Hid (Wr (fun k => k = b) w w1) := HW0.out.then hg (fun k e => by rcases e with e | e; exact .inl e; exact .inr (by have := HMZ.out; have := HSZ.out; omega))
    have HL0 : Hid (KeysAt w (w1.alloc (.cells (v.pcellsOf (tx m0.key, m)).toArray 54)) b sz w0.heap.size ar ind ins n r T [(tx m0.key, m)] R2 l1 (some ⟨w1.heap.size, 0, none⟩) 1) := by
      have low : b < sz := HLT.out
      have hmz := HMZ.out
      have s1 := hg.size
      rw [World.size_alloc] at s1
      have hR2 : off ar R2 = off ar T ∧ R2.length ≤ T.length ∧ (seg ar R2).length ≤ (seg ar T).length ∧ Fine R2 := by
        obtain ⟨e1, e2, e3⟩ := seg_seg (Int.le_of_lt HAR.out) T
        rcases pairM_rows hx with rfl | rfl
        · refine ⟨e3, off_len _ _, ?_, HR.out.tail.off ind⟩
          rw [← e2]; exact off_len _ _
        · exact ⟨rfl, Nat.le_refl _, Nat.le_refl _, HR.out.tail⟩
      obtain ⟨r1, r2', r3, r4⟩ := hR2
      refine ⟨(hr1.move ((Fresh.refl _).alloc _)), r4, own_oneP w1 (tx m0.key, m) (w0.heap.size + 1) (by omega), ?_, ?_, v.at_alloc (hg.at (by omega) (v.at_alloc HB.out.pl)), ((HB.out.vb.move ((Fresh.refl _).alloc _)).wr hg (by omega)).move ((Fresh.refl _).alloc _), hs1.move (Below.heap_alloc w1 _ _ (by omega)), HG.out.alloc _, Nat.le_trans r3 HSG.out, ?_, ?_, r1, by simp, low, hmz⟩
      · intro x hx2
        rw [List.mem_singleton] at hx2
        subst hx2
        have k := hn.off (B := w0.heap.size) (g := none) (by rw [World.size_alloc]; omega) (fun k e => by cases e)
        exact (k.grown (g := w1.heap.size) (w' := w1.alloc (.cells (v.pcellsOf (tx m0.key, m)).toArray 54)) (World.grownBy_alloc w1 _ none) (.inr rfl))
      · intro p hp2
        rw [List.mem_singleton] at hp2
        subst hp2
        show (tx m0.key).size ≤ 1000000
        rw [tx_size]; have := HK0.out; omega
      · simp only [List.length_cons, List.length_nil]; omega
      · rw [HI.out]
        simp only [List.map_cons, List.map_nil, plainP, hp, List.nil_append]
    clear hg hx HI HG hp hn hr1 hs1 HW0 HSN0 H
    obtain ⟨mk, mf, mn, ms, mla, mlc, ml, mka, mkc, mks⟩ := m
    dsimp only [v.pvalOf, v.pcellsOf, v.M.cells] at HL0 ⊢
    go_wp2_with fail
    generalize w1.alloc (.cells (.string (tx m0.key) :: [.int .i64 mk, .bool mf, .int .i64 mn, .string ms, .slice mla ml.length mlc, .slice mka mks.length mkc]).toArray 54) = wl at *
    generalize w1.heap.size = g1 at *
    generalize hmp : w0.heap.size = mp at *
    clear hmp
    go_loopw [8] (fun a8 wr => ∃ (xs : List (ByteArray × v.M)) (R' : List Rw) (line' : Nat) (a : Option Addr) (c : Nat), a8 = .slice a xs.length c ∧ Hid (KeysAt w wr b sz mp ar ind ins n r T xs R' line' a c)) (fun _ wr => rowsLeft wr b)
    case atStart => exact ⟨_, _, _, _, _, rfl, HL0.out⟩
    case round =>
      obtain ⟨xs, R', line', a, c, rfl, HL⟩ := hrel
      clear HL0
      obtain ⟨p0, p1, p2, p3, pl⟩ := place_facts HL.out.pl
      cases hb : hasB ar R' with
      | false =>
        have HMN := Lib.hid (more_none b R' line' ar ind ins false wr HL.out.rd HL.out.fine hb)
        obtain ⟨g, rfl⟩ := HL.out.row
        have HRO : Hid (∀ W : World, Fresh wr W → Calls Tryz.prog 21 #[.slice (some ⟨g, 0, none⟩) xs.length c] W fun e w' => (∃ a c', e = .returned (.agg #[.int .i64 5, .bool false, .int .i64 0, .string ⟨#[]⟩, .slice none 0 0, .slice a xs.length c']) ∧ v.RowAt w' a (v.pcells xs) ∧ ∀ ad : Addr, a = some ad → W.heap.size ≤ ad.block) ∧ Fresh W w') :=
          fun W f => v.map_own xs g c W ((v.RowAt.owns HL.out.own).move f) HL.out.ne (by have := HL.out.len; have := HBIG.out; omega)
        have HBF := Lib.hid hb
        clear hb
        go_wp2_with fail
        refine HMN.out.mono ?_
        rintro e w2 ⟨rfl, hf⟩
        have HF2 : Hid (Fresh wr (w2.alloc (.cells #[.int .i64 0, .int .i64 0, .bool false, .string ⟨#[]⟩] 90))) := hf.alloc _
        clear hf HMN p0 p1 p2 p3 pl
        go_wp2_with fail
        refine (HRO.out _ HF2.out).mono ?_
        rintro e w3 ⟨⟨a', c', rfl, hra, hsep⟩, hf3⟩
        have HF3 := Lib.hid (HF2.out.trans hf3)
        obtain ⟨k1, k2, k3, k4⟩ := HL.out.done (c' := c') HBF.out HBIG.out HF3.out hra (fun ad e => by have := hsep ad e; have := HF2.out.size; have := HL.out.sn.lt; omega)
        obtain ⟨c0, c1, c2, c3, c4, c5, f, lt⟩ := VBox.facts (g := sz + 1 + 1) (HL.out.vb.move HF3.out)
        have f0 := f 0; have f1 := f 1; have f2 := f 2; have f3 := f 3; have f4 := f 4; have f5 := f 5
        have HK : Hid (∀ u0 u1 u2 u3 u4 u5 : Value, BlkIs w b (pairs ind ins (r :: seg ar T) []) (off ar T) (.returned (.agg #[.int .i64 5, .bool false, .int .i64 0, .string ⟨#[]⟩, .slice none 0 0, .slice a' xs.length c'])) ((((((w3.setCell ⟨sz + 1 + 1, 0, none⟩ u0).setCell ⟨sz + 1 + 1, 1, none⟩ u1).setCell ⟨sz + 1 + 1, 2, none⟩ u2).setCell ⟨sz + 1 + 1, 3, none⟩ u3).setCell ⟨sz + 1 + 1, 4, none⟩ u4).setCell ⟨sz + 1 + 1, 5, none⟩ u5)) := by
          intro u0 u1 u2 u3 u4 u5
          rw [k1, k2]
          exact blk_close2 (m := v.M.mk 5 false 0 ⟨#[]⟩ none 0 [] a' c' xs) (N := mp + 1) (by have := HL.out.low; omega) (by have := HSZ.out; omega) (by have := HL.out.mpz; omega) (HL.out.wr.fresh HF3.out) k3 k4 (HL.out.rd.move HF3.out) u0 u1 u2 u3 u4 u5
        clear f k1 k2 k3 k4 hra hsep hf3
        go_wp2
        refine bodyPost_ret (v := .agg #[.int .i64 5, .bool false, .int .i64 0, .string ⟨#[]⟩, .slice none 0 0, .slice a' xs.length c']) (by simp [results, Tryz.results85, go_sem, *]) rfl ?_
        exact HK.out _ _ _ _ _ _
      | true =>
        obtain ⟨r2, T2, rfl⟩ := hasB_cons hb
        obtain ⟨e4, e5⟩ := seg_cons hb
        by_cases hbad : r2.indent ≠ ind ∨ (r2.indent = ind ∧ r2.dash ≠ false)
        · have HMB := Lib.hid (more_bad b r2 T2 line' ar ind ins false wr HL.out.rd HL.out.fine hb hbad)
          have HI : Hid (pairs ind ins (r :: seg ar T) [] = .error (r2.line, 6)) := by rw [Hid, HL.out.eq, e4, pairs_bad hbad]
          rw [HI.out]
          clear HI hbad e4 e5 hb
          go_wp2_with fail
          refine HMB.out.mono ?_
          rintro e w2 ⟨hp, hg⟩
          have HG : Hid (Wr (fun k => k = b) w w2) := HL.out.wr.trans hg
          unfold Panics at hp
          subst hp
          clear hg HMB
          go_wp2
          exact ⟨rfl, rfl, HG.out⟩
        · obtain ⟨h1, h2⟩ : r2.indent = ind ∧ r2.dash = false := by
            by_cases h : r2.indent = ind
            · exact ⟨h, by cases hq : r2.dash with | false => rfl | true => exact absurd (.inr ⟨h, by rw [hq]; decide⟩) hbad⟩
            · exact absurd (.inl h) hbad
          have HMO : Hid (Calls Tryz.prog 113 #[.pointer (some ⟨b, 0, none⟩), placeV ar ind ins false] wr fun e w' => e = .returned (.tuple #[.agg #[.int .i64 (r2.line : Int), .int .i64 (r2.indent : Int), .bool r2.dash, .string (tx r2.text)], .bool true]) ∧ Rdr w' b T2 r2.line ∧ Wr (fun k => k = b) wr w') := by
            have := more_ok b r2 T2 line' ar ins wr HL.out.rd HL.out.fine hb
            rw [show placeV ar r2.indent ins r2.dash = placeV ar ind ins false by rw [h1, h2]] at this
            exact this
          obtain ⟨_, _, hl3, hl4⟩ := HL.out.fine.head
          have hl5 := hl4.resolve_left (by rw [h2]; exact Bool.false_ne_true)
          have HL3 : Hid (r2.text ≠ [] ∧ r2.text.length ≤ 90000 ∧ Trimmed r2.text) := ⟨hl5.1, hl3, hl5.2⟩
          have HMR : Hid (∀ (m : Ent), entM r2.text = (0, some m) → ∀ (W2 W3 W4 : World) (R2 : List Rw) (l2 : Nat) (x : v.M) (y : v.V) (g cap : Nat) (o : Obj), Wr (fun k => k = b) wr W2 → x.plain = y → pairM ind ins r2.line m T2 (xs.map (·.1)) = .ok (y, R2) → x.New W2.heap.size W3 → Rdr W3 b R2 l2 → v.seenIs W3 mp (xs.length + 1) (xs.map (·.1) ++ [tx m.key]) → Wr (fun k => k = b ∨ k = mp) W2 W3 →
              W4.ownsRow (mp + 1) 54 7 (.slice (some ⟨g, 0, none⟩) (xs.length + 1) cap) (xs.length + 1) (v.pcells xs ++ v.pcellsOf (tx m.key, x)) → (W3.alloc o).grownBy W4 (Value.slice a xs.length c).ownBlock → ((Value.slice a xs.length c).ownBlock = some g ∨ g = (W3.alloc o).heap.size) →
              KeysAt w W4 b sz mp ar ind ins n r T (xs ++ [(tx m.key, x)]) R2 l2 (some ⟨g, 0, none⟩) cap) :=
            fun m hm W2 W3 W4 R2 l2 x y g cap o f2 hp hy hn hr hs f3 how hg hat => HL.out.more HSZ.out (Int.le_of_lt HAR.out) hb h1 h2 hm (entM_len hm hl3).1 f2 hp hy hn hr hs f3 o how hg hat
          have HIC : Hid ((entM r2.text).1 ≠ 0 → pairs ind ins (r :: seg ar T) [] = .error (r2.line, (entM r2.text).1)) := fun hc => by
            rw [HL.out.eq, e4, pairs_code h1 h2 hc]
          have HIN : Hid (entM r2.text = (0, none) → pairs ind ins (r :: seg ar T) [] = .error (r2.line, 6)) := fun hc => by
            rw [HL.out.eq, e4, pairs_none h1 h2 hc]
          have HIE : Hid (∀ m er, entM r2.text = (0, some m) → pairM ind ins r2.line m T2 (xs.map (·.1)) = .error er → pairs ind ins (r :: seg ar T) [] = .error er) := fun m er hm hx => by
            rw [HL.out.eq, e4, pairs_step (Int.le_of_lt HAR.out) h1 h2 hm, plainP_names, hx]
          have HSG2 : Hid ((seg (ind : Int) T2).length ≤ n) := by
            have h5 := HL.out.sg
            rw [e4, List.length_cons] at h5
            have := seg_seg_len (Int.le_of_lt HAR.out) T2
            rw [Hid]; omega
          clear hbad h1 h2 e4 e5 hb hl3 hl4 hl5
          go_wp2_with fail
          refine HMO.out.mono ?_
          rintro e w2 ⟨rfl, hr2, hg2⟩
          have HG2 : Hid (Wr (fun k => k = b) wr (w2.alloc (.cells #[.int .i64 (r2.line : Int), .int .i64 (r2.indent : Int), .bool r2.dash, .string (tx r2.text)] 90))) := hg2.alloc _
          have HR2 : Hid (Rdr (w2.alloc (.cells #[.int .i64 (r2.line : Int), .int .i64 (r2.indent : Int), .bool r2.dash, .string (tx r2.text)] 90)) b T2 r2.line) := hr2.move ((Fresh.refl _).alloc _)
          clear hr2 hg2 HMO p0 p1 p2 p3 pl
          go_wp2_with fail
          have HE2 := Lib.hid (HEN.out T2 r2.line r2.text _ (HL.out.wr.trans HG2.out) HR2.out HL3.out.1 HL3.out.2.1 HL3.out.2.2)
          clear HEN
          have HWR : Hid (∀ W : World, Rdr W b T2 r2.line → Calls Tryz.prog 54 #[.pointer (some ⟨b, 0, none⟩), .int .i64 6] W fun e w' => e = .returned (misV r2.line 6) ∧ Fresh W w') := fun W hW => wrong_any b T2 r2.line 6 W hW
          cases hx : entM r2.text with
          | mk code o =>
          rw [hx] at HE2 HIC HIN HIE HMR
          by_cases hc : code = 0
          · subst hc
            cases o with
            | none =>
              have HI := Lib.hid (HIN.out rfl)
              refine HE2.out.mono ?_
              rintro e w3 ⟨_, h2, hf⟩
              obtain rfl := h2 rfl
              have HF3 := Lib.hid hf
              have HR3 : Hid (Rdr (w3.alloc (.cells #[.string ⟨#[]⟩, .bool false, .string ⟨#[]⟩] 138)) b T2 r2.line) := (HR2.out.move hf).move ((Fresh.refl _).alloc _)
              have HG3 : Hid (Wr (fun k => k = b) w (w3.alloc (.cells #[.string ⟨#[]⟩, .bool false, .string ⟨#[]⟩] 138))) := ((HL.out.wr.trans HG2.out).fresh hf).alloc _
              clear h2 hf hx HIC HIN HIE HMR HE2
              dsimp only [optV, Option.isSome]
              go_wp2_with (go_at_call 54; refine (HWR.out _ HR3.out).mono ?_; rintro e w4 ⟨rfl, hf⟩; have HF4 := Lib.hid hf; clear hf)
              exact ⟨rfl, by rw [HI.out]; exact ⟨rfl, HG3.out.fresh HF4.out⟩⟩
            | some m =>
              obtain ⟨hk, hbh⟩ := entM_len hx HL3.out.2.1
              have HMR1 := Lib.hid (HMR.out m rfl)
              have HIE1 := Lib.hid (fun er => HIE.out m er rfl)
              refine HE2.out.mono ?_
              rintro e w3 ⟨_, h2, hf⟩
              obtain rfl := h2 rfl
              have HR3 : Hid (Rdr (w3.alloc (.cells #[.string (tx m.key), .bool m.quoted, .string (tx m.behind)] 138)) b T2 r2.line) := (HR2.out.move hf).move ((Fresh.refl _).alloc _)
              have HGR : Hid (Wr (fun k => k = b) wr (w3.alloc (.cells #[.string (tx m.key), .bool m.quoted, .string (tx m.behind)] 138))) := (HG2.out.fresh hf).alloc _
              have HSN3 : Hid (v.seenIs (w3.alloc (.cells #[.string (tx m.key), .bool m.quoted, .string (tx m.behind)] 138)) mp xs.length (xs.map (·.1))) := seen_wr HL.out.sn HGR.out (by have := HL.out.low; have := HL.out.mpz; omega)
              have HXL : Hid (xs.length + 1 ≤ 1000000) := by have h5 := HL.out.len; have h6 := HBIG.out; rw [List.length_cons] at h5; rw [Hid]; omega
              have HPC := Lib.hid (HPA.out mp xs.length (xs.map (·.1)) T2 r2.line m _ (HL.out.wr.trans HGR.out) HSG2.out HL.out.fine.tail HR3.out HSN3.out (by have := HXL.out; omega) (by have := HL.out.low; have := HL.out.mpz; omega) hk hbh)
              obtain ⟨q0, q1, q2, q3, ql⟩ := place_facts (((HG2.out.fresh hf).at (by have := HL.out.low; omega) HL.out.pl))
              clear h2 hf hx HIC HIN HIE HMR HE2 HPA hk hbh HR2 HR3 HSN3 HWR
              dsimp only [optV, Option.isSome, entV]
              unfold placeV entV at HPC
              go_wp2_with fail
              refine HPC.out.mono ?_
              clear HPC
              cases hy : pairM ind ins r2.line m T2 (xs.map (·.1)) with
              | error er =>
                rintro e w4 ⟨hp, hg⟩
                have HI := Lib.hid (HIE1.out er hy)
                have HG : Hid (Wr (fun k => k = b) w w4) := (HL.out.wr.trans HGR.out).then hg (fun k e => by rcases e with e | e; exact .inl e; exact .inr (by have := HL.out.mpz; have := HSZ.out; omega))
                unfold Panics at hp
                subst hp
                clear hg hy
                go_wp2
                exact ⟨rfl, by rw [HI.out]; exact ⟨rfl, HG.out⟩⟩
              | ok y =>
                obtain ⟨y, R2⟩ := y
                rintro e w4 ⟨⟨x, l2, rfl, hp, hn, hr4, hs4⟩, hg4⟩
                have HMR2 : Hid (∀ (W4 : World) (g cap : Nat) (o : Obj), W4.ownsRow (mp + 1) 54 7 (.slice (some ⟨g, 0, none⟩) (xs.length + 1) cap) (xs.length + 1) (v.pcells xs ++ v.pcellsOf (tx m.key, x)) → (w4.alloc o).grownBy W4 (Value.slice a xs.length c).ownBlock → ((Value.slice a xs.length c).ownBlock = some g ∨ g = (w4.alloc o).heap.size) →
                  KeysAt w W4 b sz mp ar ind ins n r T (xs ++ [(tx m.key, x)]) R2 l2 (some ⟨g, 0, none⟩) cap) := fun W4 g cap o k1 k2 k3 => HMR1.out _ w4 W4 R2 l2 x y g cap o HGR.out hp hy hn hr4 hs4 hg4 k1 k2 k3
                have HGA : Hid (Wr (fun k => k = b ∨ k = mp) wr w4) := (HGR.out.mono fun i e => .inl e).trans hg4
                have HOW : Hid (w4.ownsRow (mp + 1) 54 7 (.slice a xs.length c) xs.length (v.pcells xs)) := owns_wr2 HL.out.own HGA.out (fun k e => by have := HL.out.low; have := HL.out.mpz; omega)
                have HS4 : Hid (mp + 1 ≤ w4.heap.size) := by have := HL.out.sn.lt; have := HGA.out.size; rw [Hid]; omega
                have HR2L : Hid (R2.length ≤ T2.length) := by
                  rcases pairM_rows hy with rfl | rfl
                  · exact off_len _ _
                  · exact Nat.le_refl _
                clear HMR1 HIE1 hy hp hn hr4 hs4 hg4 q0 q1 q2 q3 ql
                obtain ⟨mk, mf, mn, ms, mla, mlc, ml, mka, mkc, mks⟩ := x
                have HN7 := Lib.hid (World.news_of_block (at_new w4 (.cells #[.string (tx m.key), .int .i64 mk, .bool mf, .int .i64 mn, .string ms, .slice mla ml.length mlc, .slice mka mks.length mkc] 54)))
                dsimp only [v.pvalOf, v.pcellsOf, v.M.cells] at HMR2 ⊢
                go_wp2_with (at_builtin; refine Hid.out ?_)
                refine Lib.hid ?_
                refine wpList_append_lies _ rfl _ _ 25 rfl (mp + 1) 54 i0 _ 7 104 Tryz.underlying25 hii hz0 hz1 hz2 hzc (by decide) (.slice a xs.length c) xs.length (v.pcells xs) rfl (World.ownsRow.alloc HOW.out _) ⟨w4.heap.size, 0, none⟩ 1 1 [.string (tx m.key), .int .i64 mk, .bool mf, .int .i64 mn, .string ms, .slice mla ml.length mlc, .slice mka mks.length mkc] rfl rfl HN7.out (fun u hu => by
                  simp only [List.mem_cons, List.not_mem_nil, or_false] at hu
                  rcases hu with rfl | rfl | rfl | rfl | rfl | rfl | rfl <;> rfl) (by decide) (by have := HXL.out; unfold maxLen; omega) (by have := HXL.out; omega) (by rw [World.size_alloc]; have := HS4.out; omega) _ rfl ?_
                intro g cap w5 hown hgrow hat hlt5
                have HL2 := Lib.hid (HMR2.out w5 g cap _ hown hgrow hat)
                clear hown hgrow hat hlt5 HOW HN7 HMR2
                go_wp2
                go_roundw
                case rel => exact ⟨xs ++ [(tx m.key, v.M.mk mk mf mn ms mla mlc ml mka mkc mks)], _, _, _, _, by rw [List.length_append]; rfl, HL2⟩
                case measure =>
                  rw [HL2.out.rd.left, HL.out.rd.left, List.length_cons]
                  exact Nat.lt_succ_of_le HR2L.out
          · refine HE2.out.mono ?_
            rintro e w3 ⟨h1, _, hf⟩
            have hp := h1 hc
            have HI := Lib.hid (HIC.out hc)
            have HG : Hid (Wr (fun k => k = b) w w3) := (HL.out.wr.trans HG2.out).fresh hf
            unfold Panics at hp
            subst hp
            clear h1 hf hx hc HIC HIN HIE HMR HE2
            go_wp2
            exact ⟨rfl, by rw [HI.out]; exact ⟨rfl, HG.out⟩⟩
theorem list_deep (b : Nat) (r : Rw) (T : List Rw) (ins : Nat) (ar : Int) (w : World) (h : Rdr w b T r.line) (hi : 32 ≤ ins) :
    Calls Tryz.prog 83 #[.pointer (some ⟨b, 0, none⟩), placeV ar r.indent ins true] w fun e w' => Panics r.line 9 e ∧ Fresh w w' := by
  have HM : Hid (∀ W : World, Fresh w W → Calls Tryz.prog 112 #[.pointer (some ⟨b, 0, none⟩), .int .i64 (ins : Int)] W fun e w' => Panics r.line 9 e ∧ Fresh W w') := fun W f => mayHold_no b T r.line ins W (h.move f) hi
  have HB := Lib.hid (boxes_new w ar r.indent ins true)
  clear h hi
  unfold placeV
  go_enter Tryz.func83, Tryz.ntmps83
  go_wp2_with fail
  generalize (w.alloc (placeO ar r.indent ins true)).alloc (.cells zcells 27 (0, 0)) = w0 at *
  generalize w.heap.size = sz at *
  refine (HM.out _ HB.out.fr).mono ?_
  rintro e w1 ⟨hp, hf⟩
  have HF1 := Lib.hid (HB.out.fr.trans hf)
  clear hf
  unfold Panics at hp
  subst hp
  go_wp2
  exact ⟨rfl, rfl, HF1.out⟩
theorem list_go (n : Nat) (ih : SayBlk n) (we : World) (b : Nat) (r : Rw) (T : List Rw) (ins : Nat) (ar : Int) (w : World) (hE : Env we) (hwe : we.heap.size ≤ b) (hfe : Fresh we w) (hsg : (seg ar T).length ≤ n) (hR : Fine (r :: T)) (hi : ins < 32) (hd : r.dash = true) (har : ar < (r.indent : Int)) (h : Rdr w b T r.line) :
    Calls Tryz.prog 83 #[.pointer (some ⟨b, 0, none⟩), placeV ar r.indent ins true] w (BlkIs w b (items r.indent ins (r :: seg ar T) []) (off ar T)) := by
  obtain ⟨i0, hii, hz0, hz1, hz2⟩ := info_parts v.info29
  have HM := Lib.hid (fun W => mayHold_ok b ins W hi)
  have HBL : Hid (∀ (R : List Rw) (line : Nat) (W : World), Wr (fun k => k = b) w W → (seg (r.indent : Int) R).length ≤ n → Fine R → Rdr W b R line → Calls Tryz.prog 55 #[.pointer (some ⟨b, 0, none⟩), .int .i64 (r.indent : Int), .int .i64 ((ins : Int) + 1)] W (BlkIs W b (blk (seg (r.indent : Int) R) (ins + 1)) (off (r.indent : Int) R))) := fun R line W f hs hf hr => by
    have := ih we b R line (ins + 1) r.indent W hE hwe (base_fresh hfe hwe f) hs hf (by omega) hr
    rw [show ((ins + 1 : Nat) : Int) = (ins : Int) + 1 by omega] at this
    exact this
  have HB := Lib.hid (boxes_new w ar r.indent ins true)
  have HLT := Lib.hid h.lt
  have H := Lib.hid h
  have HR := Lib.hid hR
  have HSG := Lib.hid hsg
  have HAR := Lib.hid har
  have HD := Lib.hid hd
  have HBIG : Hid (T.length + 1 ≤ 1000000) := hR.len
  obtain ⟨ind, hind⟩ : ∃ ind : Nat, ind = r.indent := ⟨_, rfl⟩
  have HIND := Lib.hid hind
  rw [← hind] at HBL HB HAR
  unfold placeV
  rw [← hind]
  clear h hR hsg har hd hE hwe hfe ih hind
  go_enter Tryz.func83, Tryz.ntmps83
  go_wp2_with fail
  generalize (w.alloc (placeO ar ind ins true)).alloc (.cells zcells 27 (0, 0)) = w0 at *
  generalize hsz : w.heap.size = sz at *
  have HSZ := Lib.hid hsz
  clear hsz
  obtain ⟨p0, p1, p2, p3, pl⟩ := place_facts HB.out.pl
  refine (HM.out _).mono ?_
  rintro e w1 ⟨rfl, rfl⟩
  clear HM
  go_wp2_with fail
  clear p0 p1 p2 p3 pl
  have HW0 : Hid (Wr (fun k => k = b) w w0) := .of_fresh HB.out.fr
  refine (HBL.out T r.line w0 HW0.out (Nat.le_trans (seg_seg_len (Int.le_of_lt HAR.out) T) HSG.out) HR.out.tail (H.out.move HB.out.fr)).mono ?_
  obtain ⟨e1, e2, e3⟩ := seg_seg (Int.le_of_lt HAR.out) T
  have HI : Hid (items ind ins (r :: seg ar T) [] = match blk (seg (ind : Int) T) (ins + 1) with
    | .error e => .error e
    | .ok x => items ind ins (seg ar (off (ind : Int) T)) ([] ++ [x])) := by
    rw [Hid, items_step (HIND.out.symm) HD.out, e1, e2]
    cases blk (seg (ind : Int) T) (ins + 1) <;> rfl
  have HE3 := Lib.hid e3
  clear e1 e2 e3
  cases hx : blk (seg (ind : Int) T) (ins + 1) with
  | error er =>
    rw [hx] at HI
    rintro e w1 ⟨hp, hg⟩
    have HG : Hid (Wr (fun k => k = b) w w1) := HW0.out.trans hg
    rw [HI.out]
    unfold Panics at hp
    subst hp
    clear hg hx HI HE3
    go_wp2
    exact ⟨rfl, rfl, HG.out⟩
  | ok y =>
    rw [hx] at HI
    rintro e w1 ⟨⟨m, l1, rfl, hp, hn, hr1⟩, hg⟩
    have HG : Hid (Wr (fun k => k = b) w w1) := HW0.out.trans hg
    have HL0 : Hid (ListAt w (w1.alloc (.cells m.cells.toArray 27)) b sz ar ind ins n r T [m] (off (ind : Int) T) l1 (some ⟨w1.heap.size, 0, none⟩) 1) := by
      have low : b < sz := HLT.out
      have s0 := v.lt_of_at HB.out.vb
      have s1 := hg.size
      refine ⟨(hr1.move ((Fresh.refl _).alloc _)), HR.out.tail.off _, own_one w1 m (sz + 2) (by omega), ?_, v.at_alloc (hg.at (by omega) HB.out.pl), (HB.out.vb.wr hg (by omega)).move ((Fresh.refl _).alloc _), HG.out.alloc _, ?_, ?_, ?_, HE3.out, by simp, low⟩
      · intro x hx
        rw [List.mem_singleton] at hx
        subst hx
        have k := hn.off (B := sz + 1) (g := none) (by omega) (fun k e => by cases e)
        have k2 := (k.grown (g := w1.heap.size) (w' := w1.alloc (.cells x.cells.toArray 27)) (World.grownBy_alloc w1 _ none) (.inr rfl))
        exact k2
      · have := off_len (ind : Int) T
        have h9 := (seg_seg (Int.le_of_lt HAR.out) T).2.1
        rw [← h9]
        have := off_len (ind : Int) (seg ar T)
        have := HSG.out
        omega
      · have := off_len (ind : Int) T
        simp only [List.length_cons, List.length_nil]; omega
      · rw [HI.out]
        simp only [List.map_cons, List.map_nil, hp, List.nil_append]
    clear hg hx HI HE3 HG hp hn hr1 HW0 H
    obtain ⟨mk, mf, mn, ms, mla, mlc, ml, mka, mkc, mks⟩ := m
    dsimp only [v.M.val, v.M.cells] at HL0 ⊢
    go_wp2_with fail
    generalize w1.alloc (.cells [.int .i64 mk, .bool mf, .int .i64 mn, .string ms, .slice mla ml.length mlc, .slice mka mks.length mkc].toArray 27) = wl at *
    generalize w1.heap.size = g1 at *
    go_loopw [5] (fun a5 wr => ∃ (xs : List v.M) (R' : List Rw) (line' : Nat) (a : Option Addr) (c : Nat), a5 = .slice a xs.length c ∧ Hid (ListAt w wr b sz ar ind ins n r T xs R' line' a c)) (fun _ wr => rowsLeft wr b)
    case atStart => exact ⟨_, _, _, _, _, rfl, HL0.out⟩
    case round =>
      obtain ⟨xs, R', line', a, c, rfl, HL⟩ := hrel
      clear HL0
      obtain ⟨p0, p1, p2, p3, pl⟩ := place_facts HL.out.pl
      cases hb : hasB ar R' with
      | false =>
        have HMN := Lib.hid (more_none b R' line' ar ind ins true wr HL.out.rd HL.out.fine hb)
        obtain ⟨g, rfl⟩ := HL.out.row
        have HRO : Hid (∀ W : World, Fresh wr W → Calls Tryz.prog 22 #[.slice (some ⟨g, 0, none⟩) xs.length c] W fun e w' => (∃ a c', e = .returned (.agg #[.int .i64 4, .bool false, .int .i64 0, .string ⟨#[]⟩, .slice a xs.length c', .slice none 0 0]) ∧ v.RowAt w' a (v.mcells xs) ∧ ∀ ad : Addr, a = some ad → W.heap.size ≤ ad.block) ∧ Fresh W w') :=
          fun W f => v.row_own xs g c W ((v.RowAt.owns HL.out.own).move f) HL.out.ne (by have := HL.out.len; have := HBIG.out; omega)
        have HBF := Lib.hid hb
        clear hb
        go_wp2_with fail
        refine HMN.out.mono ?_
        rintro e w2 ⟨rfl, hf⟩
        have HF2 : Hid (Fresh wr (w2.alloc (.cells #[.int .i64 0, .int .i64 0, .bool false, .string ⟨#[]⟩] 90))) := hf.alloc _
        clear hf HMN p0 p1 p2 p3 pl
        go_wp2_with fail
        refine (HRO.out _ HF2.out).mono ?_
        rintro e w3 ⟨⟨a', c', rfl, hra, hsep⟩, hf3⟩
        have HF3 := Lib.hid (HF2.out.trans hf3)
        obtain ⟨k1, k2, k3, k4⟩ := HL.out.done (c' := c') HBF.out HBIG.out HF3.out hra (fun ad e => by have := hsep ad e; have := HF2.out.size; have := v.lt_of_at HL.out.vb; omega)
        obtain ⟨c0, c1, c2, c3, c4, c5, f, lt⟩ := (HL.out.vb.move HF3.out).facts
        have f0 := f 0; have f1 := f 1; have f2 := f 2; have f3 := f 3; have f4 := f 4; have f5 := f 5
        have HK : Hid (∀ u0 u1 u2 u3 u4 u5 : Value, BlkIs w b (items ind ins (r :: seg ar T) []) (off ar T) (.returned (.agg #[.int .i64 4, .bool false, .int .i64 0, .string ⟨#[]⟩, .slice a' xs.length c', .slice none 0 0])) ((((((w3.setCell ⟨sz + 1, 0, none⟩ u0).setCell ⟨sz + 1, 1, none⟩ u1).setCell ⟨sz + 1, 2, none⟩ u2).setCell ⟨sz + 1, 3, none⟩ u3).setCell ⟨sz + 1, 4, none⟩ u4).setCell ⟨sz + 1, 5, none⟩ u5)) := by
          intro u0 u1 u2 u3 u4 u5
          rw [k1, k2]
          exact blk_close2 (m := v.M.mk 4 false 0 ⟨#[]⟩ a' c' xs none 0 []) (Nat.lt_succ_of_lt HL.out.low) (by have := HSZ.out; omega) (Nat.lt_succ_self _) (HL.out.wr.fresh HF3.out) k3 k4 (HL.out.rd.move HF3.out) u0 u1 u2 u3 u4 u5
        clear f k1 k2 k3 k4 hra hsep hf3
        go_wp2
        refine bodyPost_ret (v := .agg #[.int .i64 4, .bool false, .int .i64 0, .string ⟨#[]⟩, .slice a' xs.length c', .slice none 0 0]) (by simp [results, Tryz.results83, go_sem, *]) rfl ?_
        exact HK.out _ _ _ _ _ _
      | true =>
        obtain ⟨r2, T2, rfl⟩ := hasB_cons hb
        obtain ⟨e4, e5⟩ := seg_cons hb
        by_cases hbad : r2.indent ≠ ind ∨ (r2.indent = ind ∧ r2.dash ≠ true)
        · have HMB := Lib.hid (more_bad b r2 T2 line' ar ind ins true wr HL.out.rd HL.out.fine hb hbad)
          have HI : Hid (items ind ins (r :: seg ar T) [] = .error (r2.line, 6)) := by rw [Hid, HL.out.eq, e4, items_bad hbad]
          rw [HI.out]
          clear HI hbad e4 e5 hb
          go_wp2_with fail
          refine HMB.out.mono ?_
          rintro e w2 ⟨hp, hg⟩
          have HG : Hid (Wr (fun k => k = b) w w2) := HL.out.wr.trans hg
          unfold Panics at hp
          subst hp
          clear hg HMB
          go_wp2
          exact ⟨rfl, rfl, HG.out⟩
        · obtain ⟨h1, h2⟩ : r2.indent = ind ∧ r2.dash = true := by
            by_cases h : r2.indent = ind
            · exact ⟨h, by cases hq : r2.dash with | true => rfl | false => exact absurd (.inr ⟨h, by rw [hq]; decide⟩) hbad⟩
            · exact absurd (.inl h) hbad
          have HMO : Hid (Calls Tryz.prog 113 #[.pointer (some ⟨b, 0, none⟩), placeV ar ind ins true] wr fun e w' => e = .returned (.tuple #[.agg #[.int .i64 (r2.line : Int), .int .i64 (r2.indent : Int), .bool r2.dash, .string (tx r2.text)], .bool true]) ∧ Rdr w' b T2 r2.line ∧ Wr (fun k => k = b) wr w') := by
            have := more_ok b r2 T2 line' ar ins wr HL.out.rd HL.out.fine hb
            rw [show placeV ar r2.indent ins r2.dash = placeV ar ind ins true by rw [h1, h2]] at this
            exact this
          have HMR : Hid (∀ (W2 W3 W4 : World) (l2 : Nat) (m : v.M) (y : v.V) (g cap : Nat) (o : Obj), Wr (fun k => k = b) wr W2 → m.plain = y → blk (seg (ind : Int) T2) (ins + 1) = .ok y → m.New W2.heap.size W3 → Rdr W3 b (off (ind : Int) T2) l2 → Wr (fun k => k = b) W2 W3 →
              W4.ownsRow (sz + 2) 27 6 (.slice (some ⟨g, 0, none⟩) (xs.length + 1) cap) (xs.length + 1) (v.mcells xs ++ m.cells) → (W3.alloc o).grownBy W4 (Value.slice a xs.length c).ownBlock → ((Value.slice a xs.length c).ownBlock = some g ∨ g = (W3.alloc o).heap.size) →
              ListAt w W4 b sz ar ind ins n r T (xs ++ [m]) (off (ind : Int) T2) l2 (some ⟨g, 0, none⟩) cap) :=
            fun W2 W3 W4 l2 m y g cap o f2 hp hy hn hr f3 how hg hat => HL.out.more HSZ.out (Int.le_of_lt HAR.out) hb h1 h2 f2 hp hy hn hr f3 o how hg hat
          have HIE : Hid (∀ er, blk (seg (ind : Int) T2) (ins + 1) = .error er → items ind ins (r :: seg ar T) [] = .error er) := fun er hx => by
            rw [HL.out.eq, e4, items_step h1 h2, (seg_seg (Int.le_of_lt HAR.out) T2).1, hx]
          have HSG2 : Hid ((seg (ind : Int) T2).length ≤ n) := by
            have h5 := HL.out.sg
            rw [e4, List.length_cons] at h5
            have := seg_seg_len (Int.le_of_lt HAR.out) T2
            rw [Hid]; omega
          clear hbad h1 h2 e4 e5 hb
          go_wp2_with fail
          refine HMO.out.mono ?_
          rintro e w2 ⟨rfl, hr2, hg2⟩
          have HG2 : Hid (Wr (fun k => k = b) wr (w2.alloc (.cells #[.int .i64 (r2.line : Int), .int .i64 (r2.indent : Int), .bool r2.dash, .string (tx r2.text)] 90))) := hg2.alloc _
          have HR2 : Hid (Rdr (w2.alloc (.cells #[.int .i64 (r2.line : Int), .int .i64 (r2.indent : Int), .bool r2.dash, .string (tx r2.text)] 90)) b T2 r2.line) := hr2.move ((Fresh.refl _).alloc _)
          obtain ⟨q0, q1, q2, q3, ql⟩ := place_facts (hg2.at (by have := HL.out.low; omega) HL.out.pl)
          clear hr2 hg2 HMO p0 p1 p2 p3 pl
          go_wp2_with fail
          refine (HBL.out T2 r2.line _ (HL.out.wr.trans HG2.out) HSG2.out HL.out.fine.tail HR2.out).mono ?_
          cases hx : blk (seg (ind : Int) T2) (ins + 1) with
          | error er =>
            rintro e w3 ⟨hp, hg⟩
            have HG : Hid (Wr (fun k => k = b) w w3) := (HL.out.wr.trans HG2.out).trans hg
            have HI := Lib.hid (HIE.out er hx)
            unfold Panics at hp
            subst hp
            clear hg hx
            go_wp2
            exact ⟨rfl, by rw [HI.out]; exact ⟨rfl, HG.out⟩⟩
          | ok y =>
            rintro e w3 ⟨⟨m, l2, rfl, hp, hn, hr3⟩, hg3⟩
            have HMR2 : Hid (∀ (W4 : World) (g cap : Nat) (o : Obj), W4.ownsRow (sz + 2) 27 6 (.slice (some ⟨g, 0, none⟩) (xs.length + 1) cap) (xs.length + 1) (v.mcells xs ++ m.cells) → (w3.alloc o).grownBy W4 (Value.slice a xs.length c).ownBlock → ((Value.slice a xs.length c).ownBlock = some g ∨ g = (w3.alloc o).heap.size) →
              ListAt w W4 b sz ar ind ins n r T (xs ++ [m]) (off (ind : Int) T2) l2 (some ⟨g, 0, none⟩) cap) := fun W4 g cap o k1 k2 k3 => HMR.out _ w3 W4 l2 m y g cap o HG2.out hp hx hn hr3 hg3 k1 k2 k3
            have HOW : Hid (w3.ownsRow (sz + 2) 27 6 (.slice a xs.length c) xs.length (v.mcells xs)) := owns_wr HL.out.own (HG2.out.trans hg3) (by have := HL.out.low; omega)
            have HS3 : Hid (sz + 2 ≤ w3.heap.size) := by have := v.lt_of_at HL.out.vb; have := HG2.out.size; have := hg3.size; rw [Hid]; omega
            have HXL : Hid (xs.length + 1 ≤ 1000000) := by have h5 := HL.out.len; have h6 := HBIG.out; rw [List.length_cons] at h5; rw [Hid]; omega
            clear HMR HIE hx hp hn hr3 hg3 q0 q1 q2 q3 ql HR2
            obtain ⟨mk, mf, mn, ms, mla, mlc, ml, mka, mkc, mks⟩ := m
            have HN6 := Lib.hid (World.news_of_block (at_new w3 (.cells #[.int .i64 mk, .bool mf, .int .i64 mn, .string ms, .slice mla ml.length mlc, .slice mka mks.length mkc] 27)))
            dsimp only [v.M.val, v.M.cells] at HMR2 ⊢
            go_wp2_with (at_builtin; refine Hid.out ?_)
            refine Lib.hid ?_
            refine wpList_append_lies _ rfl _ _ 24 rfl (sz + 2) 27 i0 _ 6 88 Tryz.underlying24 hii hz0 hz1 hz2 rfl (by decide) (.slice a xs.length c) xs.length (v.mcells xs) rfl (World.ownsRow.alloc HOW.out _) ⟨w3.heap.size, 0, none⟩ 1 1 [.int .i64 mk, .bool mf, .int .i64 mn, .string ms, .slice mla ml.length mlc, .slice mka mks.length mkc] rfl rfl HN6.out (fun u hu => by
              simp only [List.mem_cons, List.not_mem_nil, or_false] at hu
              rcases hu with rfl | rfl | rfl | rfl | rfl | rfl <;> rfl) (by decide) (by have := HXL.out; unfold maxLen; omega) (by have := HXL.out; omega) (by rw [World.size_alloc]; have := HS3.out; omega) _ rfl ?_
            intro g cap w4 hown hgrow hat hlt4
            have HL2 := Lib.hid (HMR2.out w4 g cap _ hown hgrow hat)
            clear hown hgrow hat hlt4 HOW HN6 HMR2
            go_wp2
            go_roundw
            case rel => exact ⟨xs ++ [v.M.mk mk mf mn ms mla mlc ml mka mkc mks], _, _, _, _, by rw [List.length_append]; rfl, HL2⟩
            case measure =>
              rw [HL2.out.rd.left, HL.out.rd.left, List.length_cons]
              exact Nat.lt_succ_of_le (off_len _ _)
theorem say_list (n : Nat) (ih : SayBlk n) : SayList n := fun we b r T ins ar w hE hwe hfe hsg hR hi hd har h => by
  unfold listM
  by_cases h32 : 32 ≤ ins
  · rw [if_pos h32]
    exact (list_deep b r T ins ar w h h32).mono fun e w' k => ⟨k.1, .of_fresh k.2⟩
  · rw [if_neg h32]
    exact list_go n ih we b r T ins ar w hE hwe hfe hsg hR (by omega) hd har h
theorem say_keys (n : Nat) (ih : SayBlk n) : SayKeys n := fun we b r T m ins ar w hE hwe hfe hsg hR hi hd he har h => by
  unfold keysM
  by_cases h32 : 32 ≤ ins
  · rw [if_pos h32]
    exact (keys_deep b r T m ins ar w h h32).mono fun e w' k => ⟨k.1, .of_fresh k.2⟩
  · rw [if_neg h32]
    exact keys_go n ih we b r T m ins ar w hE hwe hfe hsg hR (by omega) hd he har h
theorem blk_nil (ins : Nat) : blk [] ins = .ok zV := by rw [blk]
theorem blk_dash {r : Rw} {T : List Rw} {ins : Nat} (h : r.dash = true) : blk (r :: T) ins = if 32 ≤ ins then .error (r.line, 9) else items r.indent ins (r :: T) [] := by
  rw [blk.eq_def]; dsimp only; rw [if_pos h]
theorem blk_code {r : Rw} {T : List Rw} {ins : Nat} (h : r.dash = false) (hc : (entM r.text).1 ≠ 0) : blk (r :: T) ins = .error (r.line, (entM r.text).1) := by
  rw [blk.eq_def]; dsimp only; rw [if_neg (by simp [h]), if_pos hc]
theorem blk_keys {r : Rw} {T : List Rw} {ins : Nat} {m : Ent} (h : r.dash = false) (hc : entM r.text = (0, some m)) : blk (r :: T) ins = if 32 ≤ ins then .error (r.line, 9) else pairs r.indent ins (r :: T) [] := by
  rw [blk.eq_def]; dsimp only; rw [if_neg (by simp [h]), if_neg (by simp [hc]), if_pos (by rw [hc]; rfl)]
theorem blk_alone {r : Rw} {T : List Rw} {ins : Nat} (h : r.dash = false) (hc : entM r.text = (0, none)) : blk (r :: T) ins = if (scM r.text ins).1 ≠ 0 then .error (r.line, (scM r.text ins).1) else match T with
    | [] => .ok (scM r.text ins).2
    | r2 :: _ => .error (r2.line, 6) := by
  rw [blk.eq_def]; dsimp only; rw [if_neg (by simp [h]), if_neg (by simp [hc]), if_neg (by rw [hc]; simp)]
  cases T <;> rfl
theorem zero_blk {w w' : World} {b line : Nat} {R : List Rw} {e : Ending} (hr : Rdr w b R line) (he : e = .returned v.M.zero.val) (f : Fresh w w') : BlkIs w b (.ok zV) R e w' :=
  ⟨⟨v.M.zero, line, he, rfl, flat_new zV _ _ (by decide), hr.move f⟩, .of_fresh f⟩
theorem say_step (n : Nat) (ih : SayBlk n) : SayBlk (n + 1) := fun we b R line ins ar w hE hwe hfe hsg hR hi h => by
  cases hb : hasB ar R with
  | false =>
    obtain ⟨h1, h2⟩ := off_none hb
    rw [h1, h2, blk_nil]
    exact (block_none b R line ins ar w h hR hb).mono fun e w' k => zero_blk h k.1 k.2
  | true =>
    obtain ⟨r, T, rfl⟩ := hasB_cons hb
    obtain ⟨e4, e5⟩ := seg_cons hb
    rw [e4, e5]
    rw [e4, List.length_cons] at hsg
    have hsg' : (seg ar T).length ≤ n := by omega
    have har := hasB_of hb
    cases hd : r.dash with
    | true =>
      rw [blk_dash hd]
      exact block_list b r T line ins ar w h hR hb hd _ _ fun W f hr => say_list n ih we b r T ins ar W hE hwe (base_fresh hfe hwe f) hsg' hR hi hd har hr
    | false =>
      obtain ⟨_, _, hl3, hl4⟩ := hR.head
      have hl5 := hl4.resolve_left (by rw [hd]; exact Bool.false_ne_true)
      have hen : ∀ W : World, Wr (fun k => k = b) w W → Rdr W b T r.line → Calls Tryz.prog 84 #[.pointer (some ⟨b, 0, none⟩), .string (tx r.text)] W (EntIs W r.line (entM r.text)) := fun W f hr => entry_any b T r.line r.text W hr (hE.move (base_fresh hfe hwe f)) hl5.1 hl3 hl5.2
      cases hx : entM r.text with
      | mk code o =>
        by_cases hc : code = 0
        · subst hc
          cases o with
          | none =>
            rw [blk_alone hd hx]
            refine block_alone b r T line ins ar w h hR hb hd ⟨#[]⟩ ⟨#[]⟩ false _ _ (fun W f hr => (hen W f hr).mono fun e w' k => ?_) (fun W f hr => ?_)
            · rw [hx] at k
              exact ⟨k.2.1 rfl, k.2.2⟩
            · exact alone_any b T r.line ar r.indent ins false r.text W hr (hE.move (base_fresh hfe hwe f)) hR.tail hl5.1 hl3
          | some m =>
            rw [blk_keys hd hx]
            refine block_keys b r T line ins ar w h hR hb hd (tx m.key) (tx m.behind) m.quoted _ _ (fun W f hr => (hen W f hr).mono fun e w' k => ?_) (fun W f hr => ?_)
            · rw [hx] at k
              exact ⟨k.2.1 rfl, k.2.2⟩
            · exact say_keys n ih we b r T m ins ar W hE hwe (base_fresh hfe hwe f) hsg' hR hi hd hx har hr
        · have hc' : (entM r.text).1 ≠ 0 := by rw [hx]; exact hc
          rw [blk_code hd hc', hx]
          exact block_wrong b r T line ins ar w h hR hb hd code _ _ (fun W f hr => (hen W f hr).mono fun e w' k => by rw [hx] at k; exact ⟨k.1 hc, k.2.2⟩) rfl
theorem say_blk : ∀ n : Nat, SayBlk n
  | 0 => fun we b R line ins ar w hE hwe hfe hsg hR hi h => by
    have hb : hasB ar R = false := by
      cases hb : hasB ar R with
      | false => rfl
      | true =>
        obtain ⟨r, T, rfl⟩ := hasB_cons hb
        rw [(seg_cons hb).1, List.length_cons] at hsg
        omega
    obtain ⟨h1, h2⟩ := off_none hb
    rw [h1, h2, blk_nil]
    exact (block_none b R line ins ar w h hR hb).mono fun e w' k => zero_blk h k.1 k.2
  | n + 1 => say_step n (say_blk n)
theorem block_any (b : Nat) (R : List Rw) (line ins : Nat) (ar : Int) (w : World) (hR : Fine R) (hi : ins ≤ 32) (h : Rdr w b R line) (we : World) (hE : Env we) (hwe : we.heap.size ≤ b) (hfe : Fresh we w) :
    Calls Tryz.prog 55 #[.pointer (some ⟨b, 0, none⟩), .int .i64 ar, .int .i64 (ins : Int)] w (BlkIs w b (blk (seg ar R) ins) (off ar R)) :=
  say_blk _ we b R line ins ar w hE hwe hfe (Nat.le_refl _) hR hi h
def docM (R : List Rw) : Res := if hasB 0 R = true then .error ((R.head?.map Rw.line).getD 0, 6) else blk R 0
theorem seg_all (R : List Rw) : seg (-1) R = R ∧ off (-1) R = [] := by
  have h : ∀ r : Rw, decide ((-1 : Int) < (r.indent : Int)) = true := fun r => decide_eq_true (by omega)
  induction R with
  | nil => exact ⟨rfl, rfl⟩
  | cons r R ih =>
    unfold seg off at *
    rw [List.takeWhile_cons, List.dropWhile_cons, h r]
    exact ⟨by rw [if_pos rfl, ih.1], by rw [if_pos rfl, ih.2]⟩
theorem catch_idle (p q : Nat) (w : World) :
    CallsD Tryz.prog 25 #[.pointer (some ⟨p, 0, none⟩), .pointer (some ⟨q, 0, none⟩)] .returning w fun e u' w' => e = .returned (.tuple #[]) ∧ u' = .returning ∧ w' = w := by
  refine callsD_of_wpS Tryz.func25 rfl fun c₀ cs hu => ?_
  apply wpS_seq
  apply wpS_region
  simp [wpOpsS, go_sem, recoverD, hu, Tryz.ntmps25, Exit.thenS]
  refine wpS_of_wp ?_
  change Code.wp Tryz.prog _ _ { tmps := #[.pointer (some ⟨p, 0, none⟩), .pointer (some ⟨q, 0, none⟩), .nilIface, undef, undef, .nilIface, undef, undef, undef, undef, undef, undef, undef, undef, undef, undef, undef, undef], defers := [] } w
  go_wp2
  cases c₀
  simp_all [bodyPostS, results, Tryz.results25]
theorem catch_mistake (p q line : Nat) (c : Int) (w : World) (hv : VBox w p) (hm : w.heap[q]? = some (.cells #[.int .i64 0, .int .i64 0] 30 (0, 0))) (hpq : p ≠ q) :
    CallsD Tryz.prog 25 #[.pointer (some ⟨p, 0, none⟩), .pointer (some ⟨q, 0, none⟩)] (.panicking [{ v := .iface 30 (misV line c), recovered := false }]) w fun e u' w' =>
      e = .returned (.tuple #[]) ∧ u' = .panicking [{ v := .iface 30 (misV line c), recovered := true }] ∧ VBox w' p ∧ w'.heap[q]? = some (.cells #[.int .i64 (line : Int), .int .i64 c] 30 (0, 0)) ∧ Wr (fun k => k = p ∨ k = q) w w' := by
  obtain ⟨c0, c1, c2, c3, c4, c5, f, lt⟩ := hv.facts
  have f0 := f 0; have f1 := f 1; have f2 := f 2; have f3 := f 3; have f4 := f 4; have f5 := f 5
  have q0 : w.cell? ⟨q, 0, none⟩ = some (.int .i64 0) := cell_of_at hm rfl
  have q1 : w.cell? ⟨q, 1, none⟩ = some (.int .i64 0) := cell_of_at hm rfl
  have g0 : w.frozen? ⟨q, 0, none⟩ = false := by simp [World.frozen?, hm]
  have g1 : w.frozen? ⟨q, 1, none⟩ = false := by simp [World.frozen?, hm]
  have ltq := v.lt_of_at hm
  have HV := Lib.hid hv
  have HM := Lib.hid hm
  clear hv hm f
  refine callsD_of_wpS Tryz.func25 rfl fun c₀ cs hu => ?_
  apply wpS_seq
  apply wpS_region
  simp only [misV] at hu
  simp [wpOpsS, go_sem, recoverD, hu, Tryz.ntmps25, Exit.thenS]
  refine wpS_of_wp ?_
  change Code.wp Tryz.prog _ _ { tmps := #[.pointer (some ⟨p, 0, none⟩), .pointer (some ⟨q, 0, none⟩), .iface 30 (.agg #[.int .i64 (line : Int), .int .i64 c]), undef, undef, .iface 30 (.agg #[.int .i64 (line : Int), .int .i64 c]), undef, undef, undef, undef, undef, undef, undef, undef, undef, undef, undef, undef], defers := [] } w
  have hta : ∀ W : World, (Instr.typeAssert (.iface 30 (.agg #[.int .i64 (line : Int), .int .i64 c])) 20 30 true).run Tryz.prog W = .ok (.tuple #[.agg #[.int .i64 (line : Int), .int .i64 c], .bool true]) W := fun W => by kernel_rfl
  go_upto_region 5 with (fail)
  have hal : Fresh w (w.alloc (.cells #[.int .i64 (line : Int), .int .i64 c] 30)) := (Fresh.refl w).alloc _
  have HN : Hid ((w.alloc (.cells #[.int .i64 (line : Int), .int .i64 c] 30)).heap[w.heap.size]? = some (.cells #[.int .i64 (line : Int), .int .i64 c] 30 (0, 0))) := v.at_new w _
  clear c0 c1 c2 c3 c4 c5 f0 f1 f2 f3 f4 f5 q0 q1 g0 g1 hta
  have HV2 := Lib.hid (HV.out.move hal)
  have HM2 := Lib.hid (v.Fresh.at hal HM.out)
  have HAL := Lib.hid hal
  clear hal HV HM
  have np : w.heap.size ≠ p := by omega
  have nq : w.heap.size ≠ q := by omega
  generalize w.alloc (.cells #[.int .i64 (line : Int), .int .i64 c] 30) = wa at *
  generalize w.heap.size = g at *
  obtain ⟨c0, c1, c2, c3, c4, c5, f, lt2⟩ := HV2.out.facts
  have f0 := f 0; have f1 := f 1; have f2 := f 2; have f3 := f 3; have f4 := f 4; have f5 := f 5
  have q0 : wa.cell? ⟨q, 0, none⟩ = some (.int .i64 0) := cell_of_at HM2.out rfl
  have q1 : wa.cell? ⟨q, 1, none⟩ = some (.int .i64 0) := cell_of_at HM2.out rfl
  have g0 : wa.frozen? ⟨q, 0, none⟩ = false := by simp [World.frozen?, HM2.out]
  have g1 : wa.frozen? ⟨q, 1, none⟩ = false := by simp [World.frozen?, HM2.out]
  have m0 : wa.cell? ⟨g, 0, none⟩ = some (.int .i64 (line : Int)) := cell_of_at HN.out rfl
  have m1 : wa.cell? ⟨g, 1, none⟩ = some (.int .i64 c) := cell_of_at HN.out rfl
  have hqp : q ≠ p := Ne.symm hpq
  have HP : Hid (VBox ((((((((wa.setCell ⟨p, 0, none⟩ (.int .i64 0)).setCell ⟨p, 1, none⟩ (.bool false)).setCell ⟨p, 2, none⟩ (.int .i64 0)).setCell ⟨p, 3, none⟩ (.string ⟨#[]⟩)).setCell ⟨p, 4, none⟩ (.slice none 0 0)).setCell ⟨p, 5, none⟩ (.slice none 0 0)).setCell ⟨q, 0, none⟩ (.int .i64 (line : Int))).setCell ⟨q, 1, none⟩ (.int .i64 c)) p) := by
    have h := HV2.out
    unfold VBox at h
    rw [Hid, VBox, Below.heap_setCell _ _ _ _ hpq, Below.heap_setCell _ _ _ _ hpq]
    simp [World.setCell, Array.getElem?_modify, h, zcells]
  have HQ : Hid (((((((((wa.setCell ⟨p, 0, none⟩ (.int .i64 0)).setCell ⟨p, 1, none⟩ (.bool false)).setCell ⟨p, 2, none⟩ (.int .i64 0)).setCell ⟨p, 3, none⟩ (.string ⟨#[]⟩)).setCell ⟨p, 4, none⟩ (.slice none 0 0)).setCell ⟨p, 5, none⟩ (.slice none 0 0)).setCell ⟨q, 0, none⟩ (.int .i64 (line : Int))).setCell ⟨q, 1, none⟩ (.int .i64 c)).heap[q]? = some (.cells #[.int .i64 (line : Int), .int .i64 c] 30 (0, 0))) := by
    have h := HM2.out
    have h6 : ((((((wa.setCell ⟨p, 0, none⟩ (.int .i64 0)).setCell ⟨p, 1, none⟩ (.bool false)).setCell ⟨p, 2, none⟩ (.int .i64 0)).setCell ⟨p, 3, none⟩ (.string ⟨#[]⟩)).setCell ⟨p, 4, none⟩ (.slice none 0 0)).setCell ⟨p, 5, none⟩ (.slice none 0 0)).heap[q]? = wa.heap[q]? := by
      rw [Below.heap_setCell _ _ _ _ hqp, Below.heap_setCell _ _ _ _ hqp, Below.heap_setCell _ _ _ _ hqp, Below.heap_setCell _ _ _ _ hqp, Below.heap_setCell _ _ _ _ hqp, Below.heap_setCell _ _ _ _ hqp]
    rw [h] at h6
    generalize (((((wa.setCell ⟨p, 0, none⟩ (.int .i64 0)).setCell ⟨p, 1, none⟩ (.bool false)).setCell ⟨p, 2, none⟩ (.int .i64 0)).setCell ⟨p, 3, none⟩ (.string ⟨#[]⟩)).setCell ⟨p, 4, none⟩ (.slice none 0 0)).setCell ⟨p, 5, none⟩ (.slice none 0 0) = wz at *
    rw [Hid]
    simp [World.setCell, Array.getElem?_modify, h6]
  have HWR : Hid (Wr (fun k => k = p ∨ k = q) w ((((((((wa.setCell ⟨p, 0, none⟩ (.int .i64 0)).setCell ⟨p, 1, none⟩ (.bool false)).setCell ⟨p, 2, none⟩ (.int .i64 0)).setCell ⟨p, 3, none⟩ (.string ⟨#[]⟩)).setCell ⟨p, 4, none⟩ (.slice none 0 0)).setCell ⟨p, 5, none⟩ (.slice none 0 0)).setCell ⟨q, 0, none⟩ (.int .i64 (line : Int))).setCell ⟨q, 1, none⟩ (.int .i64 c))) := (((Wr.of_fresh HAL.out).set6 (.inl (.inl rfl)) _ _ _ _ _ _).set (.inl (.inr rfl)) _).set (.inl (.inr rfl)) _
  clear f
  have HPd := Lib.hid (HP.out.move (Fresh.refl _).drew)
  have HQd := Lib.hid (v.Fresh.at (Fresh.refl _).drew HQ.out)
  have HWd := Lib.hid HWR.out.drew
  clear HP HQ HWR
  go_region
  refine And.intro rfl ?_
  refine ⟨.panicking [{ v := .iface 30 (misV line c), recovered := true }], ?_, ?_⟩
  · first | rfl | simp [misV]
  refine ⟨.tuple #[], by simp [results, Tryz.results25], ?_⟩
  exact ⟨rfl, rfl, HPd.out, HQd.out, HWd.out⟩
theorem doc_ok (b : Nat) (R : List Rw) (line : Nat) (w : World) (h : Rdr w b R line) (hR : Fine R) (hb : hasB 0 R = false) (x : Res) (R' : List Rw)
    (hq : ∀ W : World, Fresh w W → Calls Tryz.prog 55 #[.pointer (some ⟨b, 0, none⟩), .int .i64 (-1), .int .i64 0] W (BlkIs W b x R')) :
    Calls Tryz.prog 26 #[.pointer (some ⟨b, 0, none⟩)] w (BlkIs w b x R') := by
  have HH : Hid (∀ W : World, Fresh w W → Calls Tryz.prog 52 #[.pointer (some ⟨b, 0, none⟩), .int .i64 0] W fun e w' => e = .returned (.bool false) ∧ W = w') := fun W f => by
    have := hasBehind_any b R line 0 W (h.move f) hR
    rw [hb] at this
    exact this
  have HQ := Lib.hid hq
  have HLT := Lib.hid h.lt
  have HB := Lib.hid (VBox.new w)
  have HF0 := Lib.hid ((Fresh.refl w).alloc (.cells zcells 27 (0, 0)))
  clear h hR hb hq
  go_enter Tryz.func26, Tryz.ntmps26
  go_wp2_with fail
  generalize w.alloc (.cells zcells 27 (0, 0)) = w0 at *
  generalize hsz : w.heap.size = sz at *
  have HSZ := Lib.hid hsz
  clear hsz
  refine (HH.out _ HF0.out).mono ?_
  rintro e w1 ⟨rfl, rfl⟩
  go_wp2_with fail
  refine (HQ.out _ HF0.out).mono ?_
  have HG0 : Hid (Wr (fun k => k = b) w w0) := .of_fresh HF0.out
  have HW0 : Hid (sz < w0.heap.size) := v.lt_of_at HB.out
  cases x with
  | error er =>
    rintro e w2 ⟨hp, hg2⟩
    have HG2 : Hid (Wr (fun k => k = b) w w2) := HG0.out.trans hg2
    unfold Panics at hp
    subst hp
    clear hg2
    go_wp2
    exact ⟨rfl, rfl, HG2.out⟩
  | ok y =>
    rintro e w2 ⟨⟨m, line', rfl, hp, hn, hr2⟩, hg2⟩
    obtain ⟨c0, c1, c2, c3, c4, c5, f, lt⟩ := (HB.out.wr hg2 (fun e => by have := HLT.out; omega)).facts
    have f0 := f 0; have f1 := f 1; have f2 := f 2; have f3 := f 3; have f4 := f 4; have f5 := f 5
    have HK : Hid (∀ u0 u1 u2 u3 u4 u5 : Value, BlkIs w b (.ok y) R' (.returned m.val) ((((((w2.setCell ⟨sz, 0, none⟩ u0).setCell ⟨sz, 1, none⟩ u1).setCell ⟨sz, 2, none⟩ u2).setCell ⟨sz, 3, none⟩ u3).setCell ⟨sz, 4, none⟩ u4).setCell ⟨sz, 5, none⟩ u5)) :=
      fun u0 u1 u2 u3 u4 u5 => blk_close HLT.out HSZ.out HG0.out HW0.out hp hn hr2 hg2 u0 u1 u2 u3 u4 u5
    clear hp hn hr2 hg2 f
    obtain ⟨mk, mf, mn, ms, mla, mlc, ml, mka, mkc, mks⟩ := m
    dsimp only [v.M.val] at HK ⊢
    go_wp2
    refine bodyPost_ret (v := .agg #[.int .i64 mk, .bool mf, .int .i64 mn, .string ms, .slice mla ml.length mlc, .slice mka mks.length mkc]) (by simp [results, Tryz.results26, go_sem, *]) rfl ?_
    exact HK.out _ _ _ _ _ _
theorem doc_bad (b : Nat) (r : Rw) (T : List Rw) (line : Nat) (w : World) (h : Rdr w b (r :: T) line) (hR : Fine (r :: T)) (hb : hasB 0 (r :: T) = true) :
    Calls Tryz.prog 26 #[.pointer (some ⟨b, 0, none⟩)] w (BlkIs w b (.error (r.line, 6)) []) := by
  have HH : Hid (∀ W : World, Fresh w W → Calls Tryz.prog 52 #[.pointer (some ⟨b, 0, none⟩), .int .i64 0] W fun e w' => e = .returned (.bool true) ∧ W = w') := fun W f => by
    have := hasBehind_any b (r :: T) line 0 W (h.move f) hR
    rw [hb] at this
    exact this
  have HN : Hid (∀ W : World, Fresh w W → Calls Tryz.prog 53 #[.pointer (some ⟨b, 0, none⟩)] W fun e w' => e = .returned (rowV r) ∧ Rdr w' b T r.line ∧ Wr (fun k => k = b) W w') := fun W f => next_any b r T line W (h.move f) hR
  have HW : Hid (∀ W : World, Rdr W b T r.line → Calls Tryz.prog 54 #[.pointer (some ⟨b, 0, none⟩), .int .i64 6] W fun e w' => e = .returned (misV r.line 6) ∧ Fresh W w') := fun W hW => wrong_any b T r.line 6 W hW
  have HF0 := Lib.hid ((Fresh.refl w).alloc (.cells zcells 27 (0, 0)))
  clear h hR hb
  go_enter Tryz.func26, Tryz.ntmps26
  go_wp2_with fail
  generalize w.alloc (.cells zcells 27 (0, 0)) = w0 at *
  refine (HH.out _ HF0.out).mono ?_
  rintro e w1 ⟨rfl, rfl⟩
  go_wp2_with fail
  refine (HN.out _ HF0.out).mono ?_
  rintro e w3 ⟨rfl, hr3, hg3⟩
  have HR3 := Lib.hid hr3
  have HG3 := Lib.hid hg3
  unfold rowV
  clear hr3 hg3
  go_wp2_with (go_at_call 54; refine (HW.out _ HR3.out).mono ?_; rintro e w4 ⟨rfl, hf⟩; have HF4 := Lib.hid hf; clear hf)
  exact ⟨rfl, rfl, (Wr.up HF0.out HG3.out).fresh HF4.out⟩
theorem document_any (b : Nat) (R : List Rw) (line : Nat) (w : World) (hR : Fine R) (h : Rdr w b R line) (hE : Env w) (hwe : w.heap.size ≤ b ∨ ∃ we, Env we ∧ we.heap.size ≤ b ∧ Fresh we w) :
    Calls Tryz.prog 26 #[.pointer (some ⟨b, 0, none⟩)] w (BlkIs w b (docM R) []) := by
  unfold docM
  cases hb : hasB 0 R with
  | true =>
    obtain ⟨r, T, rfl⟩ := hasB_cons hb
    rw [if_pos rfl]
    exact doc_bad b r T line w h hR hb
  | false =>
    rw [if_neg (by simp)]
    obtain ⟨we, hE', hwe', hf'⟩ : ∃ we, Env we ∧ we.heap.size ≤ b ∧ Fresh we w := by
      rcases hwe with h1 | h1
      · exact ⟨w, hE, h1, .refl w⟩
      · exact h1
    refine doc_ok b R line w h hR hb _ _ fun W f => ?_
    have k := block_any b R line 0 (-1) W hR (by omega) (h.move f) we hE' hwe' (hf'.trans f)
    rw [(seg_all R).1, (seg_all R).2] at k
    exact k
theorem parseR_doc (R : List Rw) : parseR R = match docM R with
    | .ok x => (x, 0, 0)
    | .error e => (zV, e.1, e.2) := by
  unfold parseR docM
  cases R with
  | nil => simp [hasB]; cases blk [] 0 <;> rfl
  | cons r T =>
    by_cases h : 0 < r.indent
    · simp [hasB, h]
    · have h' : r.indent = 0 := by omega
      simp [hasB, h']
      cases blk (r :: T) 0 <;> rfl
end y
end Go.Proofs.YtcljplkkgpjhlaaGreatDoorR
