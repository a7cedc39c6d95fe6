/-
  Parts of the proof: YBlock YLoop YPairM.
-/
import Derived.Test.YtcljplkkgpjhlaaGreatDoorRCat19
import Derived.Test.YtcljplkkgpjhlaaGreatDoorRCat05
set_option maxRecDepth 100000
set_option maxHeartbeats 8000000
namespace Go.Proofs.YtcljplkkgpjhlaaGreatDoorR
namespace y
open Go.ChangeShapes Go.WideShapes Go.ChangeAt Go.RowKit
attribute [local go_sem ↓] Go.wp_at_zero Go.wp_at_succ
variable {w : World}
def aloneM (ar : Int) (ins line : Nat) (l : List UInt8) (R : List Rw) : Res :=
  if (scM l ins).1 ≠ 0 then .error (line, (scM l ins).1) else match seg ar R with
    | [] => .ok (scM l ins).2
    | r2 :: _ => .error (r2.line, 6)
theorem alone_any (b : Nat) (R : List Rw) (line : Nat) (ar : Int) (ind ins : Nat) (d : Bool) (l : List UInt8) (w : World) (h : Rdr w b R line) (hE : Env w) (hR : Fine R) (hne : l ≠ []) (hl : l.length ≤ 90000) :
    Calls Tryz.prog 86 #[.pointer (some ⟨b, 0, none⟩), placeV ar ind ins d, .string (tx l)] w (BlkIs w b (aloneM ar ins line l R) (off ar R)) := by
  have hq : ∀ W : World, Fresh w W → Calls Tryz.prog 117 #[.pointer (some ⟨b, 0, none⟩), .string (tx l), .int .i64 (ins : Int)] W (ScIs W line (scM l ins)) := fun W f => scalar_any b R line l ins W (h.move f) (hE.move f) hne hl
  by_cases hx : (scM l ins).1 = 0
  · have hq1 : ∀ W : World, Fresh w W → Calls Tryz.prog 117 #[.pointer (some ⟨b, 0, none⟩), .string (tx l), .int .i64 (ins : Int)] W fun e w' => e = .returned (flatM (scM l ins).2).val ∧ Fresh W w' := fun W f => (hq W f).mono fun e w' k => ⟨k.2.1 hx, k.2.2⟩
    cases hb : hasB ar R with
    | false =>
      obtain ⟨h1, h2⟩ := off_none hb
      refine (alone_ok b R line ar ind ins d (tx l) _ w h hR hb hq1).mono fun e w' k => ?_
      have hA : aloneM ar ins line l R = .ok (scM l ins).2 := by rw [aloneM, if_neg (by simp [hx]), h1]
      rw [hA, h2]
      exact ⟨⟨flatM (scM l ins).2, line, k.1, flat_plain _ (scM_flat l ins), flat_new _ _ _ (Nat.le_trans (scM_size l ins hl) (by decide)), h.move k.2⟩, .of_fresh k.2⟩
    | true =>
      obtain ⟨r, T, rfl⟩ := hasB_cons hb
      refine (alone_more b r T line ar ind ins d (tx l) _ w h hR hb hq1).mono fun e w' k => ?_
      have hA : aloneM ar ins line l (r :: T) = .error (r.line, 6) := by rw [aloneM, if_neg (by simp [hx]), (seg_cons hb).1]
      rw [hA]
      exact k
  · have hq1 : ∀ W : World, Fresh w W → Calls Tryz.prog 117 #[.pointer (some ⟨b, 0, none⟩), .string (tx l), .int .i64 (ins : Int)] W fun e w' => Panics line (scM l ins).1 e ∧ Fresh W w' := fun W f => (hq W f).mono fun e w' k => ⟨k.1 hx, k.2.2⟩
    refine (alone_bad b R line ar ind ins d (tx l) _ w h hR hq1).mono fun e w' k => ?_
    have hA : aloneM ar ins line l R = .error (line, (scM l ins).1) := by rw [aloneM, if_pos hx]
    rw [hA]
    exact ⟨k.1, .of_fresh k.2⟩
def SayBlk (n : Nat) : Prop := ∀ (w0 : World) (b : Nat) (R : List Rw) (line ins : Nat) (ar : Int) (w : World), Env w0 → w0.heap.size ≤ b → Fresh w0 w → (seg ar R).length ≤ n → Fine R → ins ≤ 32 → Rdr w b R line →
  Calls Tryz.prog 55 #[.pointer (some ⟨b, 0, none⟩), .int .i64 ar, .int .i64 (ins : Int)] w (BlkIs w b (blk (seg ar R) ins) (off ar R))
def listM (ar : Int) (r : Rw) (T : List Rw) (ins : Nat) : Res := if 32 ≤ ins then .error (r.line, 9) else items r.indent ins (r :: seg ar T) []
def keysM (ar : Int) (r : Rw) (T : List Rw) (ins : Nat) : Res := if 32 ≤ ins then .error (r.line, 9) else pairs r.indent ins (r :: seg ar T) []
def SayList (n : Nat) : Prop := ∀ (w0 : World) (b : Nat) (r : Rw) (T : List Rw) (ins : Nat) (ar : Int) (w : World), Env w0 → w0.heap.size ≤ b → Fresh w0 w → (seg ar T).length ≤ n → Fine (r :: T) → ins ≤ 32 → r.dash = true → ar < (r.indent : Int) → Rdr w b T r.line →
  Calls Tryz.prog 83 #[.pointer (some ⟨b, 0, none⟩), placeV ar r.indent ins true] w (BlkIs w b (listM ar r T ins) (off ar T))
def SayKeys (n : Nat) : Prop := ∀ (w0 : World) (b : Nat) (r : Rw) (T : List Rw) (m : Ent) (ins : Nat) (ar : Int) (w : World), Env w0 → w0.heap.size ≤ b → Fresh w0 w → (seg ar T).length ≤ n → Fine (r :: T) → ins ≤ 32 → r.dash = false → entM r.text = (0, some m) → ar < (r.indent : Int) → Rdr w b T r.line →
  Calls Tryz.prog 85 #[.pointer (some ⟨b, 0, none⟩), placeV ar r.indent ins false, entV m] w (BlkIs w b (keysM ar r T ins) (off ar T))
theorem blk_close {w W w' : World} {b sz line' : Nat} {R' : List Rw} {m : v.M} {y : v.V} (hb : b < sz) (hsz : w.heap.size = sz) (h1 : Wr (fun k => k = b) w W) (hW : sz < W.heap.size) (hp : m.plain = y) (hn : m.New W.heap.size w') (hr : Rdr w' b R' line') (h2 : Wr (fun k => k = b) W w') (u0 u1 u2 u3 u4 u5 : Value) :
    BlkIs w b (.ok y) R' (.returned m.val) ((((((w'.setCell ⟨sz, 0, none⟩ u0).setCell ⟨sz, 1, none⟩ u1).setCell ⟨sz, 2, none⟩ u2).setCell ⟨sz, 3, none⟩ u3).setCell ⟨sz, 4, none⟩ u4).setCell ⟨sz, 5, none⟩ u5) := by
  have k := (Wr.refl (fun k => k = sz) w').set6 (g := sz) (.inl rfl) u0 u1 u2 u3 u4 u5
  refine ⟨⟨m, line', rfl, hp, ?_, hr.keep k (fun i hi e => by omega)⟩, (h1.trans h2).set6 (.inr (by omega)) _ _ _ _ _ _⟩
  have hn2 := new_wr hn k (fun i e => by omega)
  exact hn2.mono (by omega)
theorem block_none (b : Nat) (R : List Rw) (line ins : Nat) (ar : Int) (w : World) (h : Rdr w b R line) (hR : Fine R) (hb : hasB ar R = false) :
    Calls Tryz.prog 55 #[.pointer (some ⟨b, 0, none⟩), .int .i64 ar, .int .i64 (ins : Int)] w fun e w' => e = .returned v.M.zero.val ∧ Fresh w w' := by
  have HH : Hid (∀ W : World, Fresh w W → Calls Tryz.prog 52 #[.pointer (some ⟨b, 0, none⟩), .int .i64 ar] W fun e w' => e = .returned (.bool false) ∧ W = w') := fun W f => by
    have := hasBehind_any b R line ar W (h.move f) hR
    rw [hb] at this
    exact this
  clear h hR hb
  go_enter Tryz.func55, Tryz.ntmps55
  go_wp2_with (go_at_call 52; refine (HH.out _ ((Fresh.refl _).alloc _)).mono ?_; rintro e w2 ⟨rfl, rfl⟩)
  exact bodyPost_ret (v := v.M.zero.val) (by simp [results, Tryz.results55, go_sem, v.M.zero, v.M.val]) rfl ⟨rfl, (Fresh.refl w).alloc _⟩
theorem block_list (b : Nat) (r : Rw) (T : List Rw) (line ins : Nat) (ar : Int) (w : World) (h : Rdr w b (r :: T) line) (hR : Fine (r :: T)) (hb : hasB ar (r :: T) = true) (hd : r.dash = true) (x : Res) (R' : List Rw)
    (hq : ∀ W : World, Wr (fun k => k = b) w W → Rdr W b T r.line → Calls Tryz.prog 83 #[.pointer (some ⟨b, 0, none⟩), placeV ar r.indent ins true] W (BlkIs W b x R')) :
    Calls Tryz.prog 55 #[.pointer (some ⟨b, 0, none⟩), .int .i64 ar, .int .i64 (ins : Int)] w (BlkIs w b x R') := by
  have HH : Hid (∀ W : World, Fresh w W → Calls Tryz.prog 52 #[.pointer (some ⟨b, 0, none⟩), .int .i64 ar] W fun e w' => e = .returned (.bool true) ∧ W = w') := fun W f => by
    have := hasBehind_any b (r :: T) line ar W (h.move f) hR
    rw [hb] at this
    exact this
  have HN : Hid (∀ W : World, Fresh w W → Calls Tryz.prog 53 #[.pointer (some ⟨b, 0, none⟩)] W fun e w' => e = .returned (.agg #[.int .i64 (r.line : Int), .int .i64 (r.indent : Int), .bool true, .string (tx r.text)]) ∧ Rdr w' b T r.line ∧ Wr (fun k => k = b) W w') := fun W f => by
    have := next_any b r T line W (h.move f) hR
    unfold rowV at this
    rw [hd] at this
    exact this
  have HQ := Lib.hid hq
  have HLT := Lib.hid h.lt
  have HB := Lib.hid (VBox.new w)
  have HF0 := Lib.hid ((Fresh.refl w).alloc (.cells zcells 27 (0, 0)))
  clear h hR hb hd hq
  go_enter Tryz.func55, Tryz.ntmps55
  go_wp2_with fail
  generalize w.alloc (.cells zcells 27 (0, 0)) = w0 at *
  generalize hsz : w.heap.size = sz at *
  have HSZ := Lib.hid hsz
  clear hsz
  refine (HH.out _ HF0.out).mono ?_
  rintro e w1 ⟨rfl, rfl⟩
  go_wp2_with fail
  refine (HN.out _ HF0.out).mono ?_
  rintro e w1 ⟨rfl, hr1, hg1⟩
  have HR1 := Lib.hid hr1
  have HG1 : Hid (Wr (fun k => k = b) w w1) := Wr.up HF0.out hg1
  have HB1 : Hid (VBox w1 sz) := HB.out.wr hg1 (fun e => by have := HLT.out; omega)
  clear hr1 hg1
  go_wp2_with fail
  have HG2W : Hid (Wr (fun k => k = b) w ((w1.alloc (.cells #[.int .i64 (r.line : Int), .int .i64 (r.indent : Int), .bool true, .string (tx r.text)] 90)).alloc (.cells #[.int .i64 ar, .int .i64 (r.indent : Int), .int .i64 (ins : Int), .bool true] 135))) := (HG1.out.alloc _).alloc _
  have HB2 : Hid (VBox ((w1.alloc (.cells #[.int .i64 (r.line : Int), .int .i64 (r.indent : Int), .bool true, .string (tx r.text)] 90)).alloc (.cells #[.int .i64 ar, .int .i64 (r.indent : Int), .int .i64 (ins : Int), .bool true] 135)) sz) := (HB1.out.move ((Fresh.refl _).alloc _)).move ((Fresh.refl _).alloc _)
  have HW2 : Hid (sz < ((w1.alloc (.cells #[.int .i64 (r.line : Int), .int .i64 (r.indent : Int), .bool true, .string (tx r.text)] 90)).alloc (.cells #[.int .i64 ar, .int .i64 (r.indent : Int), .int .i64 (ins : Int), .bool true] 135)).heap.size) := v.lt_of_at HB2.out
  have HR2 : Hid (Rdr ((w1.alloc (.cells #[.int .i64 (r.line : Int), .int .i64 (r.indent : Int), .bool true, .string (tx r.text)] 90)).alloc (.cells #[.int .i64 ar, .int .i64 (r.indent : Int), .int .i64 (ins : Int), .bool true] 135)) b T r.line) := (HR1.out.move ((Fresh.refl _).alloc _)).move ((Fresh.refl _).alloc _)
  refine (HQ.out _ HG2W.out HR2.out).mono ?_
  clear HQ HR1 HR2 HN HH
  cases x with
  | error er =>
    rintro e w2 ⟨hp, hg2⟩
    have HG2 : Hid (Wr (fun k => k = b) w w2) := HG2W.out.trans hg2
    unfold Panics at hp
    subst hp
    clear hg2
    go_wp2
    exact ⟨rfl, rfl, HG2.out⟩
  | ok y =>
    rintro e w2 ⟨⟨m, line', rfl, hp, hn, hr2⟩, hg2⟩
    obtain ⟨c0, c1, c2, c3, c4, c5, f, lt⟩ := (HB2.out.wr hg2 (fun e => by have := HLT.out; omega)).facts
    have f0 := f 0; have f1 := f 1; have f2 := f 2; have f3 := f 3; have f4 := f 4; have f5 := f 5
    have HK : Hid (∀ u0 u1 u2 u3 u4 u5 : Value, BlkIs w b (.ok y) R' (.returned m.val) ((((((w2.setCell ⟨sz, 0, none⟩ u0).setCell ⟨sz, 1, none⟩ u1).setCell ⟨sz, 2, none⟩ u2).setCell ⟨sz, 3, none⟩ u3).setCell ⟨sz, 4, none⟩ u4).setCell ⟨sz, 5, none⟩ u5)) :=
      fun u0 u1 u2 u3 u4 u5 => blk_close HLT.out HSZ.out HG2W.out HW2.out hp hn hr2 hg2 u0 u1 u2 u3 u4 u5
    clear hp hn hr2 hg2 f
    obtain ⟨mk, mf, mn, ms, mla, mlc, ml, mka, mkc, mks⟩ := m
    dsimp only [v.M.val] at HK ⊢
    go_wp2
    refine bodyPost_ret (v := .agg #[.int .i64 mk, .bool mf, .int .i64 mn, .string ms, .slice mla ml.length mlc, .slice mka mks.length mkc]) (by simp [results, Tryz.results55, go_sem, *]) rfl ?_
    exact HK.out _ _ _ _ _ _
theorem block_wrong (b : Nat) (r : Rw) (T : List Rw) (line ins : Nat) (ar : Int) (w : World) (h : Rdr w b (r :: T) line) (hR : Fine (r :: T)) (hb : hasB ar (r :: T) = true) (hd : r.dash = false) (code : Int) (x : Res) (R' : List Rw)
    (he : (∀ W : World, Wr (fun k => k = b) w W → Rdr W b T r.line → Calls Tryz.prog 84 #[.pointer (some ⟨b, 0, none⟩), .string (tx r.text)] W fun e w' => Panics r.line code e ∧ Fresh W w')) (hx : x = .error (r.line, code)) :
    Calls Tryz.prog 55 #[.pointer (some ⟨b, 0, none⟩), .int .i64 ar, .int .i64 (ins : Int)] w (BlkIs w b x R') := by
  have HH : Hid (∀ W : World, Fresh w W → Calls Tryz.prog 52 #[.pointer (some ⟨b, 0, none⟩), .int .i64 ar] W fun e w' => e = .returned (.bool true) ∧ W = w') := fun W f => by
    have := hasBehind_any b (r :: T) line ar W (h.move f) hR
    rw [hb] at this
    exact this
  have HN : Hid (∀ W : World, Fresh w W → Calls Tryz.prog 53 #[.pointer (some ⟨b, 0, none⟩)] W fun e w' => e = .returned (.agg #[.int .i64 (r.line : Int), .int .i64 (r.indent : Int), .bool false, .string (tx r.text)]) ∧ Rdr w' b T r.line ∧ Wr (fun k => k = b) W w') := fun W f => by
    have := next_any b r T line W (h.move f) hR
    unfold rowV at this
    rw [hd] at this
    exact this
  have HLT := Lib.hid h.lt
  have HB := Lib.hid (VBox.new w)
  have HF0 := Lib.hid ((Fresh.refl w).alloc (.cells zcells 27 (0, 0)))
  have HE := Lib.hid he
  subst hx
  clear h hR hb hd he
  go_enter Tryz.func55, Tryz.ntmps55
  go_wp2_with fail
  generalize w.alloc (.cells zcells 27 (0, 0)) = w0 at *
  generalize hsz : w.heap.size = sz at *
  have HSZ := Lib.hid hsz
  clear hsz
  refine (HH.out _ HF0.out).mono ?_
  rintro e w1 ⟨rfl, rfl⟩
  go_wp2_with fail
  refine (HN.out _ HF0.out).mono ?_
  rintro e w1 ⟨rfl, hr1, hg1⟩
  have HG1 : Hid (Wr (fun k => k = b) w w1) := Wr.up HF0.out hg1
  have HB1 : Hid (VBox w1 sz) := HB.out.wr hg1 (fun e => by have := HLT.out; omega)
  have HR1 : Hid (Rdr ((w1.alloc (.cells #[.int .i64 (r.line : Int), .int .i64 (r.indent : Int), .bool false, .string (tx r.text)] 90)).alloc (.cells #[.int .i64 ar, .int .i64 (r.indent : Int), .int .i64 (ins : Int), .bool false] 135)) b T r.line) := (hr1.move ((Fresh.refl _).alloc _)).move ((Fresh.refl _).alloc _)
  have HG1W : Hid (Wr (fun k => k = b) w ((w1.alloc (.cells #[.int .i64 (r.line : Int), .int .i64 (r.indent : Int), .bool false, .string (tx r.text)] 90)).alloc (.cells #[.int .i64 ar, .int .i64 (r.indent : Int), .int .i64 (ins : Int), .bool false] 135))) := (HG1.out.alloc _).alloc _
  have HB1W : Hid (VBox ((w1.alloc (.cells #[.int .i64 (r.line : Int), .int .i64 (r.indent : Int), .bool false, .string (tx r.text)] 90)).alloc (.cells #[.int .i64 ar, .int .i64 (r.indent : Int), .int .i64 (ins : Int), .bool false] 135)) sz) := (HB1.out.move ((Fresh.refl _).alloc _)).move ((Fresh.refl _).alloc _)
  have KR := v.at_new w1 (.cells #[.int .i64 (r.line : Int), .int .i64 (r.indent : Int), .bool false, .string (tx r.text)] 90)
  have KP := v.at_new (w1.alloc (.cells #[.int .i64 (r.line : Int), .int .i64 (r.indent : Int), .bool false, .string (tx r.text)] 90)) (.cells #[.int .i64 ar, .int .i64 (r.indent : Int), .int .i64 (ins : Int), .bool false] 135)
  rw [World.size_alloc] at KP
  have KR2 := Lib.hid (v.at_alloc (p := (.cells #[.int .i64 ar, .int .i64 (r.indent : Int), .int .i64 (ins : Int), .bool false] 135)) KR)
  have KP2 := Lib.hid KP
  clear hr1 hg1 HN HH KR KP HG1 HB1
  go_wp2_with fail
  generalize (w1.alloc (.cells #[.int .i64 (r.line : Int), .int .i64 (r.indent : Int), .bool false, .string (tx r.text)] 90)).alloc (.cells #[.int .i64 ar, .int .i64 (r.indent : Int), .int .i64 (ins : Int), .bool false] 135) = wa at *
  generalize w1.heap.size = s1 at *
  refine (HE.out _ HG1W.out HR1.out).mono ?_
  rintro e w2 ⟨hp, hf⟩
  have HG2 : Hid (Wr (fun k => k = b) w w2) := HG1W.out.fresh hf
  unfold Panics at hp
  subst hp
  clear hf
  go_wp2
  exact ⟨rfl, rfl, HG2.out⟩
theorem block_keys (b : Nat) (r : Rw) (T : List Rw) (line ins : Nat) (ar : Int) (w : World) (h : Rdr w b (r :: T) line) (hR : Fine (r :: T)) (hb : hasB ar (r :: T) = true) (hd : r.dash = false) (ka kb : ByteArray) (kq : Bool) (x : Res) (R' : List Rw)
    (he : (∀ W : World, Wr (fun k => k = b) w W → Rdr W b T r.line → Calls Tryz.prog 84 #[.pointer (some ⟨b, 0, none⟩), .string (tx r.text)] W fun e w' => e = .returned (.tuple #[.agg #[.string ka, .bool kq, .string kb], .bool true]) ∧ Fresh W w'))
    (hq : ∀ W : World, Wr (fun k => k = b) w W → Rdr W b T r.line → Calls Tryz.prog 85 #[.pointer (some ⟨b, 0, none⟩), placeV ar r.indent ins false, .agg #[.string ka, .bool kq, .string kb]] W (BlkIs W b x R')) :
    Calls Tryz.prog 55 #[.pointer (some ⟨b, 0, none⟩), .int .i64 ar, .int .i64 (ins : Int)] w (BlkIs w b x R') := by
  have HH : Hid (∀ W : World, Fresh w W → Calls Tryz.prog 52 #[.pointer (some ⟨b, 0, none⟩), .int .i64 ar] W fun e w' => e = .returned (.bool true) ∧ W = w') := fun W f => by
    have := hasBehind_any b (r :: T) line ar W (h.move f) hR
    rw [hb] at this
    exact this
  have HN : Hid (∀ W : World, Fresh w W → Calls Tryz.prog 53 #[.pointer (some ⟨b, 0, none⟩)] W fun e w' => e = .returned (.agg #[.int .i64 (r.line : Int), .int .i64 (r.indent : Int), .bool false, .string (tx r.text)]) ∧ Rdr w' b T r.line ∧ Wr (fun k => k = b) W w') := fun W f => by
    have := next_any b r T line W (h.move f) hR
    unfold rowV at this
    rw [hd] at this
    exact this
  have HLT := Lib.hid h.lt
  have HB := Lib.hid (VBox.new w)
  have HF0 := Lib.hid ((Fresh.refl w).alloc (.cells zcells 27 (0, 0)))
  have HE := Lib.hid he
  have HQ := Lib.hid hq
  clear h hR hb hd he hq
  go_enter Tryz.func55, Tryz.ntmps55
  go_wp2_with fail
  generalize w.alloc (.cells zcells 27 (0, 0)) = w0 at *
  generalize hsz : w.heap.size = sz at *
  have HSZ := Lib.hid hsz
  clear hsz
  refine (HH.out _ HF0.out).mono ?_
  rintro e w1 ⟨rfl, rfl⟩
  go_wp2_with fail
  refine (HN.out _ HF0.out).mono ?_
  rintro e w1 ⟨rfl, hr1, hg1⟩
  have HG1 : Hid (Wr (fun k => k = b) w w1) := Wr.up HF0.out hg1
  have HB1 : Hid (VBox w1 sz) := HB.out.wr hg1 (fun e => by have := HLT.out; omega)
  have HR1 : Hid (Rdr ((w1.alloc (.cells #[.int .i64 (r.line : Int), .int .i64 (r.indent : Int), .bool false, .string (tx r.text)] 90)).alloc (.cells #[.int .i64 ar, .int .i64 (r.indent : Int), .int .i64 (ins : Int), .bool false] 135)) b T r.line) := (hr1.move ((Fresh.refl _).alloc _)).move ((Fresh.refl _).alloc _)
  have HG1W : Hid (Wr (fun k => k = b) w ((w1.alloc (.cells #[.int .i64 (r.line : Int), .int .i64 (r.indent : Int), .bool false, .string (tx r.text)] 90)).alloc (.cells #[.int .i64 ar, .int .i64 (r.indent : Int), .int .i64 (ins : Int), .bool false] 135))) := (HG1.out.alloc _).alloc _
  have HB1W : Hid (VBox ((w1.alloc (.cells #[.int .i64 (r.line : Int), .int .i64 (r.indent : Int), .bool false, .string (tx r.text)] 90)).alloc (.cells #[.int .i64 ar, .int .i64 (r.indent : Int), .int .i64 (ins : Int), .bool false] 135)) sz) := (HB1.out.move ((Fresh.refl _).alloc _)).move ((Fresh.refl _).alloc _)
  have KR := v.at_new w1 (.cells #[.int .i64 (r.line : Int), .int .i64 (r.indent : Int), .bool false, .string (tx r.text)] 90)
  have KP := v.at_new (w1.alloc (.cells #[.int .i64 (r.line : Int), .int .i64 (r.indent : Int), .bool false, .string (tx r.text)] 90)) (.cells #[.int .i64 ar, .int .i64 (r.indent : Int), .int .i64 (ins : Int), .bool false] 135)
  rw [World.size_alloc] at KP
  have KR2 := Lib.hid (v.at_alloc (p := (.cells #[.int .i64 ar, .int .i64 (r.indent : Int), .int .i64 (ins : Int), .bool false] 135)) KR)
  have KP2 := Lib.hid KP
  clear hr1 hg1 HN HH KR KP HG1 HB1
  go_wp2_with fail
  generalize (w1.alloc (.cells #[.int .i64 (r.line : Int), .int .i64 (r.indent : Int), .bool false, .string (tx r.text)] 90)).alloc (.cells #[.int .i64 ar, .int .i64 (r.indent : Int), .int .i64 (ins : Int), .bool false] 135) = wa at *
  generalize w1.heap.size = s1 at *
  refine (HE.out _ HG1W.out HR1.out).mono ?_
  rintro e w2 ⟨rfl, hf⟩
  have HG2W : Hid (Wr (fun k => k = b) w (w2.alloc (.cells #[.string ka, .bool kq, .string kb] 138))) := (HG1W.out.fresh hf).alloc _
  have HB2 : Hid (VBox (w2.alloc (.cells #[.string ka, .bool kq, .string kb] 138)) sz) := (HB1W.out.move hf).move ((Fresh.refl _).alloc _)
  have HW2 : Hid (sz < (w2.alloc (.cells #[.string ka, .bool kq, .string kb] 138)).heap.size) := v.lt_of_at HB2.out
  have HR2 : Hid (Rdr (w2.alloc (.cells #[.string ka, .bool kq, .string kb] 138)) b T r.line) := (HR1.out.move hf).move ((Fresh.refl _).alloc _)
  have kr := v.Fresh.at hf KR2.out
  have kp := v.Fresh.at hf KP2.out
  obtain ⟨p0, p1, p2, p3, pl⟩ := place_facts kp
  have r3 : w2.cell? ⟨s1, 3, none⟩ = some (.string (tx r.text)) := cell_of_at kr rfl
  have rl := v.lt_of_at kr
  clear hf kr kp KR2 KP2 HR1 HB1W HE
  go_wp2_with fail
  refine (HQ.out _ HG2W.out HR2.out).mono ?_
  clear HQ HR2
  cases x with
  | error er =>
    rintro e w3 ⟨hp, hg2⟩
    have HG2 : Hid (Wr (fun k => k = b) w w3) := HG2W.out.trans hg2
    unfold Panics at hp
    subst hp
    clear hg2
    go_wp2
    exact ⟨rfl, rfl, HG2.out⟩
  | ok y =>
    rintro e w3 ⟨⟨m, line', rfl, hp, hn, hr2⟩, hg2⟩
    obtain ⟨c0, c1, c2, c3, c4, c5, f, lt⟩ := (HB2.out.wr hg2 (fun e => by have := HLT.out; omega)).facts
    have f0 := f 0; have f1 := f 1; have f2 := f 2; have f3 := f 3; have f4 := f 4; have f5 := f 5
    have HK : Hid (∀ u0 u1 u2 u3 u4 u5 : Value, BlkIs w b (.ok y) R' (.returned m.val) ((((((w3.setCell ⟨sz, 0, none⟩ u0).setCell ⟨sz, 1, none⟩ u1).setCell ⟨sz, 2, none⟩ u2).setCell ⟨sz, 3, none⟩ u3).setCell ⟨sz, 4, none⟩ u4).setCell ⟨sz, 5, none⟩ u5)) :=
      fun u0 u1 u2 u3 u4 u5 => blk_close HLT.out HSZ.out HG2W.out HW2.out hp hn hr2 hg2 u0 u1 u2 u3 u4 u5
    clear hp hn hr2 hg2 f
    obtain ⟨mk, mf, mn, ms, mla, mlc, ml, mka, mkc, mks⟩ := m
    dsimp only [v.M.val] at HK ⊢
    go_wp2
    refine bodyPost_ret (v := .agg #[.int .i64 mk, .bool mf, .int .i64 mn, .string ms, .slice mla ml.length mlc, .slice mka mks.length mkc]) (by simp [results, Tryz.results55, go_sem, *]) rfl ?_
    exact HK.out _ _ _ _ _ _
theorem block_alone (b : Nat) (r : Rw) (T : List Rw) (line ins : Nat) (ar : Int) (w : World) (h : Rdr w b (r :: T) line) (hR : Fine (r :: T)) (hb : hasB ar (r :: T) = true) (hd : r.dash = false) (ka kb : ByteArray) (kq : Bool) (x : Res) (R' : List Rw)
    (he : (∀ W : World, Wr (fun k => k = b) w W → Rdr W b T r.line → Calls Tryz.prog 84 #[.pointer (some ⟨b, 0, none⟩), .string (tx r.text)] W fun e w' => e = .returned (.tuple #[.agg #[.string ka, .bool kq, .string kb], .bool false]) ∧ Fresh W w'))
    (hq : ∀ W : World, Wr (fun k => k = b) w W → Rdr W b T r.line → Calls Tryz.prog 86 #[.pointer (some ⟨b, 0, none⟩), placeV ar r.indent ins false, .string (tx r.text)] W (BlkIs W b x R')) :
    Calls Tryz.prog 55 #[.pointer (some ⟨b, 0, none⟩), .int .i64 ar, .int .i64 (ins : Int)] w (BlkIs w b x R') := by
  have HH : Hid (∀ W : World, Fresh w W → Calls Tryz.prog 52 #[.pointer (some ⟨b, 0, none⟩), .int .i64 ar] W fun e w' => e = .returned (.bool true) ∧ W = w') := fun W f => by
    have := hasBehind_any b (r :: T) line ar W (h.move f) hR
    rw [hb] at this
    exact this
  have HN : Hid (∀ W : World, Fresh w W → Calls Tryz.prog 53 #[.pointer (some ⟨b, 0, none⟩)] W fun e w' => e = .returned (.agg #[.int .i64 (r.line : Int), .int .i64 (r.indent : Int), .bool false, .string (tx r.text)]) ∧ Rdr w' b T r.line ∧ Wr (fun k => k = b) W w') := fun W f => by
    have := next_any b r T line W (h.move f) hR
    unfold rowV at this
    rw [hd] at this
    exact this
  have HLT := Lib.hid h.lt
  have HB := Lib.hid (VBox.new w)
  have HF0 := Lib.hid ((Fresh.refl w).alloc (.cells zcells 27 (0, 0)))
  have HE := Lib.hid he
  have HQ := Lib.hid hq
  clear h hR hb hd he hq
  go_enter Tryz.func55, Tryz.ntmps55
  go_wp2_with fail
  generalize w.alloc (.cells zcells 27 (0, 0)) = w0 at *
  generalize hsz : w.heap.size = sz at *
  have HSZ := Lib.hid hsz
  clear hsz
  refine (HH.out _ HF0.out).mono ?_
  rintro e w1 ⟨rfl, rfl⟩
  go_wp2_with fail
  refine (HN.out _ HF0.out).mono ?_
  rintro e w1 ⟨rfl, hr1, hg1⟩
  have HG1 : Hid (Wr (fun k => k = b) w w1) := Wr.up HF0.out hg1
  have HB1 : Hid (VBox w1 sz) := HB.out.wr hg1 (fun e => by have := HLT.out; omega)
  have HR1 : Hid (Rdr ((w1.alloc (.cells #[.int .i64 (r.line : Int), .int .i64 (r.indent : Int), .bool false, .string (tx r.text)] 90)).alloc (.cells #[.int .i64 ar, .int .i64 (r.indent : Int), .int .i64 (ins : Int), .bool false] 135)) b T r.line) := (hr1.move ((Fresh.refl _).alloc _)).move ((Fresh.refl _).alloc _)
  have HG1W : Hid (Wr (fun k => k = b) w ((w1.alloc (.cells #[.int .i64 (r.line : Int), .int .i64 (r.indent : Int), .bool false, .string (tx r.text)] 90)).alloc (.cells #[.int .i64 ar, .int .i64 (r.indent : Int), .int .i64 (ins : Int), .bool false] 135))) := (HG1.out.alloc _).alloc _
  have HB1W : Hid (VBox ((w1.alloc (.cells #[.int .i64 (r.line : Int), .int .i64 (r.indent : Int), .bool false, .string (tx r.text)] 90)).alloc (.cells #[.int .i64 ar, .int .i64 (r.indent : Int), .int .i64 (ins : Int), .bool false] 135)) sz) := (HB1.out.move ((Fresh.refl _).alloc _)).move ((Fresh.refl _).alloc _)
  have KR := v.at_new w1 (.cells #[.int .i64 (r.line : Int), .int .i64 (r.indent : Int), .bool false, .string (tx r.text)] 90)
  have KP := v.at_new (w1.alloc (.cells #[.int .i64 (r.line : Int), .int .i64 (r.indent : Int), .bool false, .string (tx r.text)] 90)) (.cells #[.int .i64 ar, .int .i64 (r.indent : Int), .int .i64 (ins : Int), .bool false] 135)
  rw [World.size_alloc] at KP
  have KR2 := Lib.hid (v.at_alloc (p := (.cells #[.int .i64 ar, .int .i64 (r.indent : Int), .int .i64 (ins : Int), .bool false] 135)) KR)
  have KP2 := Lib.hid KP
  clear hr1 hg1 HN HH KR KP HG1 HB1
  go_wp2_with fail
  generalize (w1.alloc (.cells #[.int .i64 (r.line : Int), .int .i64 (r.indent : Int), .bool false, .string (tx r.text)] 90)).alloc (.cells #[.int .i64 ar, .int .i64 (r.indent : Int), .int .i64 (ins : Int), .bool false] 135) = wa at *
  generalize w1.heap.size = s1 at *
  refine (HE.out _ HG1W.out HR1.out).mono ?_
  rintro e w2 ⟨rfl, hf⟩
  have HG2W : Hid (Wr (fun k => k = b) w (w2.alloc (.cells #[.string ka, .bool kq, .string kb] 138))) := (HG1W.out.fresh hf).alloc _
  have HB2 : Hid (VBox (w2.alloc (.cells #[.string ka, .bool kq, .string kb] 138)) sz) := (HB1W.out.move hf).move ((Fresh.refl _).alloc _)
  have HW2 : Hid (sz < (w2.alloc (.cells #[.string ka, .bool kq, .string kb] 138)).heap.size) := v.lt_of_at HB2.out
  have HR2 : Hid (Rdr (w2.alloc (.cells #[.string ka, .bool kq, .string kb] 138)) b T r.line) := (HR1.out.move hf).move ((Fresh.refl _).alloc _)
  have kr := v.Fresh.at hf KR2.out
  have kp := v.Fresh.at hf KP2.out
  obtain ⟨p0, p1, p2, p3, pl⟩ := place_facts kp
  have r3 : w2.cell? ⟨s1, 3, none⟩ = some (.string (tx r.text)) := cell_of_at kr rfl
  have rl := v.lt_of_at kr
  clear hf kr kp KR2 KP2 HR1 HB1W HE
  go_wp2_with fail
  refine (HQ.out _ HG2W.out HR2.out).mono ?_
  clear HQ HR2
  cases x with
  | error er =>
    rintro e w3 ⟨hp, hg2⟩
    have HG2 : Hid (Wr (fun k => k = b) w w3) := HG2W.out.trans hg2
    unfold Panics at hp
    subst hp
    clear hg2
    go_wp2
    exact ⟨rfl, rfl, HG2.out⟩
  | ok y =>
    rintro e w3 ⟨⟨m, line', rfl, hp, hn, hr2⟩, hg2⟩
    obtain ⟨c0, c1, c2, c3, c4, c5, f, lt⟩ := (HB2.out.wr hg2 (fun e => by have := HLT.out; omega)).facts
    have f0 := f 0; have f1 := f 1; have f2 := f 2; have f3 := f 3; have f4 := f 4; have f5 := f 5
    have HK : Hid (∀ u0 u1 u2 u3 u4 u5 : Value, BlkIs w b (.ok y) R' (.returned m.val) ((((((w3.setCell ⟨sz, 0, none⟩ u0).setCell ⟨sz, 1, none⟩ u1).setCell ⟨sz, 2, none⟩ u2).setCell ⟨sz, 3, none⟩ u3).setCell ⟨sz, 4, none⟩ u4).setCell ⟨sz, 5, none⟩ u5)) :=
      fun u0 u1 u2 u3 u4 u5 => blk_close HLT.out HSZ.out HG2W.out HW2.out hp hn hr2 hg2 u0 u1 u2 u3 u4 u5
    clear hp hn hr2 hg2 f
    obtain ⟨mk, mf, mn, ms, mla, mlc, ml, mka, mkc, mks⟩ := m
    dsimp only [v.M.val] at HK ⊢
    go_wp2
    refine bodyPost_ret (v := .agg #[.int .i64 mk, .bool mf, .int .i64 mn, .string ms, .slice mla ml.length mlc, .slice mka mks.length mkc]) (by simp [results, Tryz.results55, go_sem, *]) rfl ?_
    exact HK.out _ _ _ _ _ _
end y
namespace y
open Go.ChangeShapes Go.WideShapes Go.ChangeAt Go.RowKit
variable {w : World}
theorem hasB_of {ar : Int} {r : Rw} {T : List Rw} (h : hasB ar (r :: T) = true) : ar < (r.indent : Int) := of_decide_eq_true h
theorem tw_len {α : Type} (p q : α → Bool) (hpq : ∀ x, p x = true → q x = true) : ∀ l : List α, (l.takeWhile p).length ≤ (l.takeWhile q).length
  | [] => Nat.le_refl _
  | a :: l => by
    rw [List.takeWhile_cons, List.takeWhile_cons]
    cases hp : p a with
    | false => exact Nat.zero_le _
    | true =>
      rw [hpq a hp]
      have := tw_len p q hpq l
      simp only [if_true, List.length_cons]; omega
theorem tw_tw {α : Type} (p q : α → Bool) (hpq : ∀ x, p x = true → q x = true) : ∀ l : List α, (l.takeWhile q).takeWhile p = l.takeWhile p ∧ (l.takeWhile q).dropWhile p = (l.dropWhile p).takeWhile q ∧ (l.dropWhile p).dropWhile q = l.dropWhile q
  | [] => ⟨rfl, rfl, rfl⟩
  | a :: l => by
    obtain ⟨h1, h2, h3⟩ := tw_tw p q hpq l
    cases hp : p a with
    | true =>
      have hq := hpq a hp
      simp only [List.takeWhile_cons, List.dropWhile_cons, hp, hq, if_true]
      exact ⟨by rw [h1], h2, h3⟩
    | false =>
      cases hq : q a with
      | true => simp [hp, hq]
      | false => simp [hp, hq]
theorem seg_seg {ar : Int} {ind : Nat} (h : ar ≤ (ind : Int)) (R : List Rw) : seg ind (seg ar R) = seg ind R ∧ off ind (seg ar R) = seg ar (off ind R) ∧ off ar (off ind R) = off ar R :=
  tw_tw _ _ (fun x hx => by have := of_decide_eq_true hx; exact decide_eq_true (by omega)) R
theorem seg_seg_len {ar : Int} {ind : Nat} (h : ar ≤ (ind : Int)) (R : List Rw) : (seg ind R).length ≤ (seg ar R).length :=
  tw_len _ _ (fun x hx => by have := of_decide_eq_true hx; exact decide_eq_true (by omega)) R
theorem Fine.off {R : List Rw} (h : Fine R) (ind : Int) : Fine (off ind R) :=
  ⟨Nat.le_trans (off_len ind R) h.len, fun x hx => h.row x ((List.dropWhile_suffix _).mem hx)⟩
theorem items_step {ind ins : Nat} {r : Rw} {T : List Rw} {acc : List v.V} (h1 : r.indent = ind) (h2 : r.dash = true) : items ind ins (r :: T) acc = match blk (seg ind T) (ins + 1) with
    | .error e => .error e
    | .ok x => items ind ins (off ind T) (acc ++ [x]) := by
  rw [items, if_neg (by simp [h1, h2])]
  cases blk (seg ind T) (ins + 1) <;> rfl
theorem items_bad {ind ins : Nat} {r : Rw} {T : List Rw} {acc : List v.V} (h : r.indent ≠ ind ∨ (r.indent = ind ∧ r.dash ≠ true)) : items ind ins (r :: T) acc = .error (r.line, 6) := by
  rw [items, if_pos (by rcases h with h | ⟨_, h⟩; exact .inl h; exact .inr (by simpa using h))]
theorem items_nil {ind ins : Nat} {acc : List v.V} : items ind ins [] acc = .ok (vList acc) := by rw [items]
def rowsLeft (w : World) (b : Nat) : Nat := match w.cell? ⟨b, 0, none⟩ with
  | some (.slice _ n _) => n
  | _ => 0
theorem Rdr.left {w : World} {b : Nat} {R : List Rw} {line : Nat} (h : Rdr w b R line) : rowsLeft w b = R.length := by
  obtain ⟨a, c, hb, _⟩ := h
  have : w.cell? ⟨b, 0, none⟩ = some (.slice a R.length c) := cell_of_at hb rfl
  unfold rowsLeft
  rw [this]
theorem grown_of {b : Nat} {w w' : World} (h : Wr (fun k => k = b) w w') : w.grownBy w' (some b) := ⟨h.os, h.tape, h.output, h.size, fun k hk hne => h.block k hk (fun e => hne (by rw [e]))⟩
theorem owns_wr {b B : Nat} {t : TypeId} {k n : Nat} {w w' : World} {u : Value} {xs : List Value} (h : w.ownsRow B t k u n xs) (f : Wr (fun k => k = b) w w') (hb : b < B) : w'.ownsRow B t k u n xs := by
  refine h.kept (grown_of f) ?_
  rcases hu : u.ownBlock with _ | g
  · exact .inl rfl
  · refine .inr (fun e => ?_)
    injection e with e
    have := (World.ownsRow.lt h g hu).1
    omega
theorem off_wr {B : Nat} {g : Option Nat} {p : Nat → Prop} {w w' : World} {m : v.M} (h : m.Off B g w) (f : Wr p w w') (hp : ∀ k, p k → k ≤ B) : m.Off B g w' := h.cells fun gg j x e => by
  obtain ⟨h1, h2⟩ := v.wo_cell e
  refine v.wo_up h1 (f.cell (fun k => ?_) h2)
  have := hp gg k
  simp at h1
  omega
theorem base_fresh {we w W : World} {b : Nat} (hfe : Fresh we w) (hwe : we.heap.size ≤ b) (f : Wr (fun k => k = b) w W) : Fresh we W :=
  Wr.toFresh (p := fun k => we.heap.size ≤ k) ((Wr.of_fresh hfe).then f (fun i e => .inl (by omega))) (fun k hk e => by omega)
theorem own_one (w1 : World) (m : v.M) (B : Nat) (hB : B ≤ w1.heap.size) : (w1.alloc (.cells m.cells.toArray 27)).ownsRow B 27 6 (.slice (some ⟨w1.heap.size, 0, none⟩) 1 1) 1 (v.mcells [m]) := by
  have h := v.owns_built (n := 1) (k := 6) (v.at_new w1 (.cells m.cells.toArray 27)) hB (by simp [v.cells_length]) (by unfold maxLen; omega)
  have e : v.mcells [m] = m.cells.toArray.toList := by simp [v.mcells]
  rw [e]; exact h
theorem blk_close2 {w w' : World} {b g N line' : Nat} {R' : List Rw} {m : v.M} {y : v.V} (hb : b < g) (hg : w.heap.size ≤ g) (hN : g < N) (h : Wr (fun k => k = b) w w') (hp : m.plain = y) (hn : m.New N w') (hr : Rdr w' b R' line') (u0 u1 u2 u3 u4 u5 : Value) :
    BlkIs w b (.ok y) R' (.returned m.val) ((((((w'.setCell ⟨g, 0, none⟩ u0).setCell ⟨g, 1, none⟩ u1).setCell ⟨g, 2, none⟩ u2).setCell ⟨g, 3, none⟩ u3).setCell ⟨g, 4, none⟩ u4).setCell ⟨g, 5, none⟩ u5) := by
  have k := (Wr.refl (fun k => k = g) w').set6 (g := g) (.inl rfl) u0 u1 u2 u3 u4 u5
  refine ⟨⟨m, line', rfl, hp, ?_, hr.keep k (fun i hi e => by omega)⟩, h.set6 (.inr hg) _ _ _ _ _ _⟩
  exact (new_wr hn k (fun i e => by omega)).mono (by omega)
structure ListAt (w W : World) (b sz : Nat) (ar : Int) (ind ins n : Nat) (r : Rw) (T : List Rw) (xs : List v.M) (R' : List Rw) (line' : Nat) (a : Option Addr) (c : Nat) : Prop where
  rd : Rdr W b R' line'
  fine : Fine R'
  own : W.ownsRow (sz + 2) 27 6 (.slice a xs.length c) xs.length (v.mcells xs)
  ms : ∀ x ∈ xs, x.Off (sz + 1) (Value.slice a xs.length c).ownBlock W
  pl : W.heap[sz]? = some (placeO ar ind ins true)
  vb : VBox W (sz + 1)
  wr : Wr (fun k => k = b) w W
  sg : (seg ar R').length ≤ n
  len : xs.length + R'.length ≤ T.length + 1
  eq : items ind ins (r :: seg ar T) [] = items ind ins (seg ar R') (xs.map v.M.plain)
  ofs : off ar R' = off ar T
  ne : 0 < xs.length
  low : b < sz
theorem ListAt.row {w W : World} {b sz : Nat} {ar : Int} {ind ins n : Nat} {r : Rw} {T : List Rw} {xs : List v.M} {R' : List Rw} {line' : Nat} {a : Option Addr} {c : Nat} (h : ListAt w W b sz ar ind ins n r T xs R' line' a c) : ∃ g, a = some ⟨g, 0, none⟩ := by
  have hne := h.ne
  rcases h.own.2 with ⟨e, e2⟩ | ⟨g, cap, cur, e, _⟩
  · omega
  · injection e with e
    exact ⟨g, e⟩
theorem ListAt.done {w W W3 : World} {b sz : Nat} {ar : Int} {ind ins n : Nat} {r : Rw} {T : List Rw} {xs : List v.M} {R' : List Rw} {line' : Nat} {a : Option Addr} {c : Nat} (h : ListAt w W b sz ar ind ins n r T xs R' line' a c) (hb : hasB ar R' = false) (hbig : T.length + 1 ≤ 1000000)
    {a' : Option Addr} {c' : Nat} (f : Fresh W W3) (hra : v.RowAt W3 a' (v.mcells xs)) (hsep : ∀ ad : Addr, a' = some ad → sz + 2 ≤ ad.block) :
    items ind ins (r :: seg ar T) [] = .ok (vList (xs.map v.M.plain)) ∧ off ar T = R' ∧ (v.M.mk 4 false 0 ⟨#[]⟩ a' c' xs none 0 []).plain = vList (xs.map v.M.plain) ∧ (v.M.mk 4 false 0 ⟨#[]⟩ a' c' xs none 0 []).New (sz + 2) W3 := by
  obtain ⟨h1, h2⟩ := off_none hb
  refine ⟨by rw [h.eq, h1, items_nil], by rw [← h.ofs, h2], ?_, ?_⟩
  · show v.V.mk 4 false 0 ⟨#[]⟩ (v.plainL xs) (v.plainK []) = _
    rw [v.plainL_eq]; rfl
  · refine .mk (by decide) (v.row_new hra hsep) (.nil _) ?_ (by simp) (fun _ h => by cases h) ?_ (fun _ h => by cases h)
    · have := h.len
      omega
    · intro x hx
      exact ((h.ms x hx).move f).new (N := sz + 2) (by omega)
theorem ListAt.more {w W W2 W3 W4 : World} {b sz : Nat} {ar : Int} {ind ins n : Nat} {r : Rw} {T : List Rw} {xs : List v.M} {r2 : Rw} {T2 : List Rw} {line' l2 : Nat} {a : Option Addr} {c : Nat} {m : v.M} {y : v.V} {g cap : Nat}
    (h : ListAt w W b sz ar ind ins n r T xs (r2 :: T2) line' a c) (hw : w.heap.size = sz) (har : ar ≤ (ind : Int)) (hb : hasB ar (r2 :: T2) = true) (h1 : r2.indent = ind) (h2 : r2.dash = true)
    (f2 : Wr (fun k => k = b) W W2) (hp : m.plain = y) (hy : blk (seg ind T2) (ins + 1) = .ok y) (hn : m.New W2.heap.size W3) (hr : Rdr W3 b (off ind T2) l2) (f3 : Wr (fun k => k = b) W2 W3) (o : Obj)
    (how : W4.ownsRow (sz + 2) 27 6 (.slice (some ⟨g, 0, none⟩) (xs.length + 1) cap) (xs.length + 1) (v.mcells xs ++ m.cells)) (hg : (W3.alloc o).grownBy W4 (Value.slice a xs.length c).ownBlock) (hat : (Value.slice a xs.length c).ownBlock = some g ∨ g = (W3.alloc o).heap.size) :
    ListAt w W4 b sz ar ind ins n r T (xs ++ [m]) (off ind T2) l2 (some ⟨g, 0, none⟩) cap := by
  have f : Wr (fun k => k = b) W W3 := f2.trans f3
  have low := h.low
  have hs := f.size
  have hs2 := f2.size
  have hlt : ∀ k, (Value.slice a xs.length c).ownBlock = some k → sz + 2 ≤ k ∧ k < W.heap.size := fun k e => World.ownsRow.lt h.own k e
  have fa : Wr (fun k => k = b) W (W3.alloc o) := f.alloc o
  have fg : Wr (fun k => sz + 2 ≤ k) (W3.alloc o) W4 := (Wr.refl (fun k => sz + 2 ≤ k) _).grown hg (fun k e => .inl (hlt k e).1)
  have hvb := v.lt_of_at h.vb
  obtain ⟨e1, e2, e3⟩ := seg_seg har T2
  obtain ⟨e4, e5⟩ := seg_cons hb
  refine ⟨?_, (h.fine.tail).off ind, ?_, ?_, ?_, ?_, ?_, ?_, ?_, ?_, ?_, by simp, low⟩
  · exact (hr.move ((Fresh.refl _).alloc o)).keep fg (fun k hk e => by omega)
  · rw [v.mcells_snoc, List.length_append]; exact how
  · intro x hx
    rcases List.mem_append.1 hx with hx | hx
    · have k := off_wr (h.ms x hx) fa (fun k e => by omega)
      rw [show (Value.slice (some ⟨g, 0, none⟩ : Option Addr) (xs ++ [m]).length cap).ownBlock = some g from rfl]
      exact k.grown hg hat
    · rw [List.mem_singleton] at hx
      subst hx
      have k := (hn.off (B := sz + 1) (g := (Value.slice a xs.length c).ownBlock) (by omega) (fun k e => by have := (hlt k e).2; omega)).move ((Fresh.refl _).alloc o)
      exact k.grown hg hat
  · exact fg.at (by omega) (fa.at (by omega) h.pl)
  · exact (h.vb.wr fa (by omega)).wr fg (by omega)
  · exact (h.wr.trans fa).then fg (fun k e => by omega)
  · have := seg_seg_len (ar := ar) (ind := ind) har T2
    have h5 := h.sg
    rw [e4, List.length_cons] at h5
    rw [← e2]
    have := off_len ind (seg ar T2)
    omega
  · have h5 := h.len
    have := off_len ind T2
    simp only [List.length_cons, List.length_append, List.length_nil] at h5 ⊢
    omega
  · rw [h.eq, e4, items_step h1 h2, e1, hy]
    simp only [List.map_append, List.map_cons, List.map_nil, hp]
    rw [e2]
  · rw [e3, ← e5]; exact h.ofs
def pairM (ind ins line : Nat) (m : Ent) (R : List Rw) (L : List ByteArray) : Except (Nat × Int) (v.V × List Rw) :=
  if keyE m L ≠ 0 then .error (line, keyE m L)
  else if m.behind = [] then (match blk (seg ind R) (ins + 1) with
    | .error e => .error e
    | .ok y => .ok (y, off ind R))
  else if (scM m.behind (ins + 1)).1 ≠ 0 then .error (line, (scM m.behind (ins + 1)).1)
  else .ok ((scM m.behind (ins + 1)).2, R)
theorem pairs_step {ar : Int} {ind ins : Nat} {r : Rw} {R : List Rw} {acc : List (ByteArray × v.V)} {m : Ent} (har : ar ≤ (ind : Int)) (h1 : r.indent = ind) (h2 : r.dash = false) (he : entM r.text = (0, some m)) :
    pairs ind ins (r :: seg ar R) acc = match pairM ind ins r.line m R (acc.map (·.1)) with
      | .error e => .error e
      | .ok y => pairs ind ins (seg ar y.2) (acc ++ [(tx m.key, y.1)]) := by
  obtain ⟨e1, e2, e3⟩ := seg_seg har R
  rw [pairs, if_neg (by simp [h1, h2]), if_neg (by rw [he]; simp), he]
  unfold pairM
  dsimp only
  split
  · rfl
  split
  · rw [e1]
    cases blk (seg ind R) (ins + 1) with
    | error e => rfl
    | ok y => rw [e2]
  split
  · rfl
  · rfl
def withRows (x : Res) (R' : List Rw) : Except (Nat × Int) (v.V × List Rw) := match x with
  | .error er => .error er
  | .ok y => .ok (y, R')
def BlkP (w : World) (b : Nat) (x : Res) (R' : List Rw) (e : Ending) (w' : World) : Prop :=
  (∃ er, x = .error er ∧ e = .panicked [{ v := .iface 30 (misV er.1 er.2), recovered := false }] ∧ Wr (fun k => k = b) w w') ∨
  ∃ (y : v.V) (mk : Int) (mf : Bool) (mn : Int) (ms : ByteArray) (mla : Option Addr) (mlc : Nat) (ml : List v.M) (mka : Option Addr) (mkc : Nat) (mks : List (ByteArray × v.M)),
    e = .returned (.agg #[.int .i64 mk, .bool mf, .int .i64 mn, .string ms, .slice mla ml.length mlc, .slice mka mks.length mkc]) ∧
    (x = .ok y ∧ (v.M.mk mk mf mn ms mla mlc ml mka mkc mks).plain = y ∧ (v.M.mk mk mf mn ms mla mlc ml mka mkc mks).New w.heap.size w' ∧ ∃ line', Rdr w' b R' line') ∧ Wr (fun k => k = b) w w'
theorem blkP {w : World} {b : Nat} {x : Res} {R' : List Rw} {e : Ending} {w' : World} (h : BlkIs w b x R' e w') : BlkP w b x R' e w' := by
  cases x with
  | error er => exact .inl ⟨er, rfl, h.1, h.2⟩
  | ok y =>
    obtain ⟨⟨m, line', he, hp, hn, hr⟩, hw⟩ := h
    obtain ⟨mk, mf, mn, ms, mla, mlc, ml, mka, mkc, mks⟩ := m
    exact .inr ⟨y, mk, mf, mn, ms, mla, mlc, ml, mka, mkc, mks, he, ⟨rfl, hp, hn, line', hr⟩, hw⟩
def PairIs (w : World) (b mp k : Nat) (L : List ByteArray) (key : List UInt8) (x : Except (Nat × Int) (v.V × List Rw)) (e : Ending) (w' : World) : Prop := match x with
  | .error er => Panics er.1 er.2 e ∧ Wr (fun k => k = b ∨ k = mp) w w'
  | .ok y => (∃ (m : v.M) (line' : Nat), e = .returned (v.pvalOf (tx key, m)) ∧ m.plain = y.1 ∧ m.New w.heap.size w' ∧ Rdr w' b y.2 line' ∧ v.seenIs w' mp (k + 1) (L ++ [tx key])) ∧ Wr (fun k => k = b ∨ k = mp) w w'
abbrev entO (m : Ent) : Obj := .cells #[.string (tx m.key), .bool m.quoted, .string (tx m.behind)] 138 (0, 0)
abbrev pcellZ : Array Value := #[.string ⟨#[]⟩, .int .i64 0, .bool false, .int .i64 0, .string ⟨#[]⟩, .slice none 0 0, .slice none 0 0]
structure Boxes3 (w w0 : World) (sz : Nat) (ar : Int) (ind ins : Nat) (d : Bool) (m : Ent) : Prop where
  eq : w.heap.size = sz
  pl : w0.heap[sz]? = some (placeO ar ind ins d)
  en : w0.heap[sz + 1]? = some (entO m)
  pb : w0.heap[sz + 2]? = some (.cells pcellZ 54 (0, 0))
  fr : Fresh w w0
theorem boxes3_new (w : World) (ar : Int) (ind ins : Nat) (d : Bool) (m : Ent) : Boxes3 w (((w.alloc (placeO ar ind ins d)).alloc (entO m)).alloc (.cells pcellZ 54 (0, 0))) w.heap.size ar ind ins d m := by
  have h1 := v.at_new (w.alloc (placeO ar ind ins d)) (entO m)
  have h2 := v.at_new ((w.alloc (placeO ar ind ins d)).alloc (entO m)) (.cells pcellZ 54 (0, 0))
  rw [World.size_alloc] at h1
  rw [World.size_alloc, World.size_alloc] at h2
  exact ⟨rfl, v.at_alloc (v.at_alloc (v.at_new w _)), v.at_alloc h1, h2, (((Fresh.refl w).alloc _).alloc _).alloc _⟩
theorem Boxes3.wr {p : Nat → Prop} {w w0 w1 : World} {sz : Nat} {ar : Int} {ind ins : Nat} {d : Bool} {m : Ent} (h : Boxes3 w w0 sz ar ind ins d m) (f : Wr p w0 w1) (hp : ∀ k, sz ≤ k → ¬ p k) :
    w1.heap[sz]? = some (placeO ar ind ins d) ∧ w1.heap[sz + 1]? = some (entO m) ∧ w1.heap[sz + 2]? = some (.cells pcellZ 54 (0, 0)) :=
  ⟨f.at (hp _ (by omega)) h.pl, f.at (hp _ (by omega)) h.en, f.at (hp _ (by omega)) h.pb⟩
structure NFacts (w : World) (g : Nat) (m : Ent) : Prop where
  n0 : w.cell? ⟨g, 0, none⟩ = some (.string (tx m.key))
  n1 : w.cell? ⟨g, 1, none⟩ = some (.bool m.quoted)
  n2 : w.cell? ⟨g, 2, none⟩ = some (.string (tx m.behind))
  lt : g < w.heap.size
theorem ent_facts {w : World} {g : Nat} {m : Ent} (h : w.heap[g]? = some (entO m)) : NFacts w g m := ⟨cell_of_at h rfl, cell_of_at h rfl, cell_of_at h rfl, v.lt_of_at h⟩
structure PBFacts (w : World) (g : Nat) : Prop where
  c0 : w.cell? ⟨g, 0, none⟩ = some (.string ⟨#[]⟩)
  c1 : w.cell? ⟨g, 1, none⟩ = some (.int .i64 0)
  c2 : w.cell? ⟨g, 2, none⟩ = some (.bool false)
  c3 : w.cell? ⟨g, 3, none⟩ = some (.int .i64 0)
  c4 : w.cell? ⟨g, 4, none⟩ = some (.string ⟨#[]⟩)
  c5 : w.cell? ⟨g, 5, none⟩ = some (.slice none 0 0)
  c6 : w.cell? ⟨g, 6, none⟩ = some (.slice none 0 0)
  f : ∀ i, w.frozen? ⟨g, i, none⟩ = false
  lt : g < w.heap.size
theorem pb_facts {w : World} {g : Nat} (h : w.heap[g]? = some (.cells pcellZ 54 (0, 0))) : PBFacts w g :=
  ⟨cell_of_at h rfl, cell_of_at h rfl, cell_of_at h rfl, cell_of_at h rfl, cell_of_at h rfl, cell_of_at h rfl, cell_of_at h rfl, fun i => by simp [World.frozen?, h], v.lt_of_at h⟩
theorem Wr.set7 {p : Nat → Prop} {a b : World} (h : Wr p a b) {g : Nat} (hg : p g ∨ a.heap.size ≤ g) (u0 u1 u2 u3 u4 u5 u6 : Value) :
    Wr p a (((((((b.setCell ⟨g, 0, none⟩ u0).setCell ⟨g, 1, none⟩ u1).setCell ⟨g, 2, none⟩ u2).setCell ⟨g, 3, none⟩ u3).setCell ⟨g, 4, none⟩ u4).setCell ⟨g, 5, none⟩ u5).setCell ⟨g, 6, none⟩ u6) :=
  (h.set6 hg u0 u1 u2 u3 u4 u5).set hg u6
theorem seen_wr {p : Nat → Prop} {w w' : World} {mp k : Nat} {L : List ByteArray} (h : v.seenIs w mp k L) (f : Wr p w w') (hp : ¬ p mp) : v.seenIs w' mp k L :=
  h.move (f.block mp h.lt hp)
theorem pair_close {w W w' : World} {b mp k sz line' : Nat} {L : List ByteArray} {key : List UInt8} {R' : List Rw} {m : v.M} {y : v.V} (hb : b < sz) (hm : mp < sz) (hsz : w.heap.size = sz) (h1 : Wr (fun k => k = b ∨ k = mp) w W) (hW : sz + 2 < W.heap.size)
    (hp : m.plain = y) (hn : m.New W.heap.size w') (hr : Rdr w' b R' line') (hs : v.seenIs w' mp (k + 1) (L ++ [tx key])) (h2 : Wr (fun k => k = b ∨ k = mp) W w') (u0 u1 u2 u3 u4 u5 u6 : Value) :
    PairIs w b mp k L key (.ok (y, R')) (.returned (v.pvalOf (tx key, m))) (((((((w'.setCell ⟨sz + 2, 0, none⟩ u0).setCell ⟨sz + 2, 1, none⟩ u1).setCell ⟨sz + 2, 2, none⟩ u2).setCell ⟨sz + 2, 3, none⟩ u3).setCell ⟨sz + 2, 4, none⟩ u4).setCell ⟨sz + 2, 5, none⟩ u5).setCell ⟨sz + 2, 6, none⟩ u6) := by
  have k := (Wr.refl (fun k => k = sz + 2) w').set7 (g := sz + 2) (.inl rfl) u0 u1 u2 u3 u4 u5 u6
  refine ⟨⟨m, line', rfl, hp, ?_, hr.keep k (fun i hi e => by omega), seen_wr hs k (by omega)⟩, (h1.trans h2).set7 (.inr (by omega)) _ _ _ _ _ _ _⟩
  exact (new_wr hn k (fun i e => by omega)).mono (by omega)
end y
end Go.Proofs.YtcljplkkgpjhlaaGreatDoorR
