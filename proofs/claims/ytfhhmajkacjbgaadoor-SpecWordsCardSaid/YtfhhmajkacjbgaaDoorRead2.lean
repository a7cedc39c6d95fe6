/-
  Package utf's reader: an escape by number, a character, and what Unquote makes of a quoted text.
-/
import Derived.Test.YtfhhmajkacjbgaaDoorRead
namespace Go.Proofs.YtfhhmajkacjbgaaDoor
open Go.ChangeShapes Go.WideShapes Go.ChangeAt Go.RowKit
attribute [local go_sem ↓] Go.wp_at_zero Go.wp_at_succ
variable {w : World}

/-- utf8.AppendRune at this program. -/
theorem rune_any (B : Nat) (v : Value) (l m : List UInt8) (r : Int) (w : World) (h0 : 0 ≤ r) (h1 : r ≤ 2147483647) (hl : l.length ≤ 1000000) (hB : B ≤ w.heap.size) (hb : Buf w B v l) (hm : Lib.runeCells r = vals m) (hm0 : 0 < m.length) :
    Calls Tryd.prog 99 #[v, .int .i32 r] w fun e w' => ∃ g n c : Nat, e = .returned (.slice (some ⟨g, 0, none⟩) n c) ∧ Buf w' B (.slice (some ⟨g, 0, none⟩) n c) (l ++ m) ∧ w.grownBy w' v.ownBlock := by
  refine (Any.utf8_AppendRune_plain Tryd.laysRune info5 B v l.length (vals l) r (by omega) h1 w hb (by omega) hB).mono ?_
  rintro e w' ⟨v', he, hown, o, hg⟩
  rw [hm, vals_length] at hown
  obtain ⟨g, cap, rfl, _⟩ := World.ownsRow.form hown (by omega)
  exact ⟨g, _, cap, he, Buf.more hown rfl, grown_alloc hg⟩
set_option maxRecDepth 100000 in
set_option maxHeartbeats 2000000 in
theorem byNumber_any (b : Nat) (ds rest : List UInt8) (v : Value) (text m : List UInt8) (w : World) (h4 : ds.length = 4) (hd : ∀ c ∈ ds, isDig c) (h0 : 0 ≤ valD ds) (h1 : valD ds < 55296) (hm : Lib.runeCells (valD ds) = vals m) (hm0 : 0 < m.length) (hl : text.length ≤ 1000000) (h : Rdr w b (ds ++ rest) v text) :
    Calls Tryd.prog 90 #[.pointer (some ⟨b, 0, none⟩)] w (Reads w b rest (text ++ m) 0) := by
  have HN := Lib.hid (number_any b ds rest v text w h4 hd h)
  have HM := Lib.hid hm
  generalize valD ds = n at *
  have h2 : n ≤ 2147483647 := by omega
  clear h h4 hd hm
  go_enter Tryd.func90, Tryd.ntmps90
  go_wp2_with fail
  refine HN.out.mono ?_
  rintro e w1 ⟨rfl, hr, hb1⟩
  have HR := Lib.hid hr
  have HB1 := Lib.hid hb1
  have c1 := hr.c1
  have hlt := lt_of_at hr.box
  clear hr hb1
  go_wp2_with fail
  refine (first_no n _ h0 h1).mono ?_
  rintro e w' ⟨rfl, rfl⟩
  go_wp2_with fail
  refine (second_no n _ h0 h1).mono ?_
  rintro e w' ⟨rfl, rfl⟩
  go_wp2_with fail
  refine (rune_any (b + 1) v text m n _ h0 h2 hl (by omega) HR.out.buf HM.out hm0).mono ?_
  rintro e w2 ⟨g2, n2, k2, rfl, hb2, hg2⟩
  have HP := Lib.hid (HR.out.push hb2 hg2)
  clear hb2 hg2
  have d1 := HP.out.c1
  have d2 := HP.out.f1
  have d3 := HP.out.lt
  go_wp2
  go_ret
  exact ⟨rfl, ⟨_, HP.out.rdr⟩, HB1.out.trans HP.out.below⟩
set_option maxRecDepth 100000 in
set_option maxHeartbeats 2000000 in
theorem escape_u (b : Nat) (rest r2 : List UInt8) (v : Value) (text t2 : List UInt8) (w : World) (h : Rdr w b (117 :: rest) v text)
    (hn : ∀ W, Rdr W b rest v text → Calls Tryd.prog 90 #[.pointer (some ⟨b, 0, none⟩)] W (Reads W b r2 t2 0)) :
    Calls Tryd.prog 83 #[.pointer (some ⟨b, 0, none⟩)] w (Reads w b r2 t2 0) := by
  have c0 := h.c0
  have f0 := h.f0
  have hbw := lt_of_at h.box
  have HN := Lib.hid (hn _ (h.set0 (r2 := rest)))
  obtain ⟨p1, p2, p3, p4⟩ := bs_cons 117 rest
  generalize bs (117 :: rest) = r at *
  generalize bs rest = r1 at *
  clear h hn
  go_enter Tryd.func83, Tryd.ntmps83
  go_wp2_with fail
  refine HN.out.mono ?_
  rintro e w2 ⟨rfl, hr2, hb2⟩
  go_wp2
  go_ret
  exact ⟨rfl, hr2, Rdr.below0.trans hb2⟩
set_option maxRecDepth 100000 in
set_option maxHeartbeats 2000000 in
theorem char_esc (b : Nat) (rest r2 : List UInt8) (v : Value) (text t2 : List UInt8) (w : World) (h : Rdr w b (92 :: rest) v text)
    (hn : ∀ W, Rdr W b rest v text → Calls Tryd.prog 83 #[.pointer (some ⟨b, 0, none⟩)] W (Reads W b r2 t2 0)) :
    Calls Tryd.prog 70 #[.pointer (some ⟨b, 0, none⟩)] w (Reads w b r2 t2 0) := by
  have c0 := h.c0
  have f0 := h.f0
  have hbw := lt_of_at h.box
  have HN := Lib.hid (hn _ (h.set0 (r2 := rest)))
  obtain ⟨p1, p2, p3, p4⟩ := bs_cons 92 rest
  generalize bs (92 :: rest) = r at *
  generalize bs rest = r1 at *
  clear h hn
  go_enter Tryd.func70, Tryd.ntmps70
  go_wp2_with fail
  refine HN.out.mono ?_
  rintro e w2 ⟨rfl, hr2, hb2⟩
  go_wp2
  go_ret
  exact ⟨rfl, hr2, Rdr.below0.trans hb2⟩
/-- The library's tables lie as its text lays them. -/
def Tabs (w : World) : Prop := Lib.Utf8Tabs (Tryd.laysValid_ren.g 3) (Tryd.laysValid_ren.g 4) w
theorem valid_any (s : ByteArray) (w : World) (hs : s.size ≤ 1000000) (hT : Tabs w) : Calls Tryd.prog 92 #[.string s] w fun e w' => e = .returned (.bool (Lib.validD s.data.toList)) ∧ Fresh w w' :=
  Any.utf8_ValidString Tryd.laysValid s w (by omega) hT
theorem isValid_any (s : ByteArray) (w : World) (hs : s.size ≤ 1000000) (hT : Tabs w) : Calls Tryd.prog 85 #[.string s] w fun e w' => e = .returned (.bool (Lib.validD s.data.toList)) ∧ Fresh w w' := by
  have HV := Lib.hid (valid_any s w hs hT)
  generalize Lib.validD s.data.toList = x at *
  clear hT
  go_enter Tryd.func85, Tryd.ntmps85
  go_wp2_with fail
  refine HV.out.mono ?_
  rintro e w1 ⟨rfl, hf⟩
  go_wp2
  go_ret
  exact ⟨rfl, hf⟩
theorem decode_any (s : ByteArray) (w : World) (hT : Tabs w) : Calls Tryd.prog 84 #[.string s] w fun e w' => e = .returned (.tuple #[.int .i32 (Lib.decodeGo s).1, .int .i64 (Lib.decodeGo s).2]) ∧ Fresh w w' :=
  Any.utf8_DecodeRuneInString Tryd.laysDecode s w hT
end Go.Proofs.YtfhhmajkacjbgaaDoor
