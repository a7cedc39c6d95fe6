/-
  The law's of and show: a word as the document has it, and as a text.
-/
import Derived.Test.YtajmhllldocpjaaDoorDec
import Derived.Test.YtajmhllldocpjaaDoorAg3
import Derived.Test.YtajmhllldocpjaaDoorQuote3
namespace Go.Proofs.YtajmhllldocpjaaDoor
open Go.ChangeShapes Go.WideShapes Go.ChangeAt Go.RowKit
set_option maxRecDepth 100000 in
set_option maxHeartbeats 1000000 in
theorem of_any (k v a : Int) (t : ByteArray) (w : World) : Calls Tryd.prog 10 #[.agg #[.int .i64 k, .string t, .int .i64 v, .int .i64 a]] w fun e w' => e = .returned (.agg #[.int .i64 k, .string t, .int .i64 v, .int .i64 a]) ∧ Fresh w w' := by
  have HF := Lib.hid (fun o p => ((Fresh.refl w).alloc o).alloc p)
  go_enter Tryd.func10, Tryd.ntmps10
  go_wp2
  exact bodyPost_ret (v := .agg #[.int .i64 k, .string t, .int .i64 v, .int .i64 a]) (by simp [results, Tryd.results10, go_sem, *]) rfl ⟨rfl, HF.out _ _⟩
def wordV (k v a : Int) (t : ByteArray) : Value := .agg #[.int .i64 k, .string t, .int .i64 v, .int .i64 a]
def ShowIs (w : World) (s : ByteArray) (e : Ending) (w' : World) : Prop := e = .returned (.string s) ∧ Fresh w w'
set_option maxRecDepth 100000 in
set_option maxHeartbeats 1000000 in
theorem show_text (t : List UInt8) (a : Int) (w : World) (ht : t.length ≤ 4096) : Calls Tryd.prog 9 #[.agg #[.int .i64 6, .string (bs t), .int .i64 0, .int .i64 a]] w (ShowIs w (bs (quoted t))) := by
  have HQ := Lib.hid (fun W => rquote_any (bs t) W (by rw [bs_size]; omega))
  rw [bs_toList] at HQ
  have HF := Lib.hid (fun o => (Fresh.refl w).alloc o)
  generalize bs t = s at *
  clear ht
  go_enter Tryd.func9, Tryd.ntmps9
  go_wp2_with fail
  refine (HQ.out _).mono ?_
  rintro e w1 ⟨rfl, hf⟩
  have HF1 := Lib.hid ((HF.out _).trans hf)
  clear hf
  go_wp2
  go_ret
  exact ⟨rfl, HF1.out⟩
set_option maxRecDepth 100000 in
set_option maxHeartbeats 1000000 in
theorem show_int (v a : Int) (w : World) (h0 : -9223372036854775808 ≤ v) (h1 : v ≤ 9223372036854775807) : Calls Tryd.prog 9 #[.agg #[.int .i64 10, .string (bs []), .int .i64 v, .int .i64 a]] w (ShowIs w (bs (decL v))) := by
  have HQ := Lib.hid (fun W => decimal_any v W h0 h1)
  have HF := Lib.hid (fun o => (Fresh.refl w).alloc o)
  clear h0 h1
  go_enter Tryd.func9, Tryd.ntmps9
  go_wp2_with fail
  refine (HQ.out _).mono ?_
  rintro e w1 ⟨rfl, hf⟩
  have HF1 := Lib.hid ((HF.out _).trans hf)
  clear hf
  go_wp2
  go_ret
  exact ⟨rfl, HF1.out⟩
set_option maxRecDepth 100000 in
set_option maxHeartbeats 1000000 in
theorem show_end (v a : Int) (w : World) : Calls Tryd.prog 9 #[.agg #[.int .i64 11, .string (bs []), .int .i64 v, .int .i64 a]] w (ShowIs w (bs [])) := by
  have HF := Lib.hid (fun o => (Fresh.refl w).alloc o)
  go_enter Tryd.func9, Tryd.ntmps9
  go_wp2
  go_ret
  exact ⟨rfl, HF.out _⟩
set_option maxRecDepth 100000 in
set_option maxHeartbeats 4000000 in
theorem show_sign (k v a : Int) (w : World) (h : SignN k) : Calls Tryd.prog 9 #[.agg #[.int .i64 k, .string (bs []), .int .i64 v, .int .i64 a]] w (ShowIs w (bs (signT k))) := by
  have HF := Lib.hid (fun o p => ((Fresh.refl w).alloc o).alloc p)
  rcases h with rfl | rfl | rfl | rfl | rfl | rfl | rfl | rfl | rfl
  all_goals
    go_enter Tryd.func9, Tryd.ntmps9
    go_wp2
    go_ret
    exact ⟨rfl, HF.out _ _⟩
theorem show_any (t : Tok) (w : World) (h : GoodT t ∨ t = ⟨11, [], 0, t.at_⟩) : Calls Tryd.prog 9 #[.agg #[.int .i64 t.kind, .string (bs t.text), .int .i64 t.int, .int .i64 (t.at_ : Int)]] w (ShowIs w (bs (showT t))) := by
  obtain ⟨k, x, v, a⟩ := t
  rcases h with (⟨h1, h2, h3, h4⟩ | ⟨h1, h2, h3, h4⟩ | ⟨h1, h2, h3⟩) | h
  · dsimp only at h1 h2 h3 h4
    subst h1 h4
    exact show_text x a w h3
  · dsimp only at h1 h2 h3 h4
    subst h1 h2
    exact show_int v a w h3 h4
  · dsimp only at h1 h2 h3
    subst h2 h3
    have e : showT ⟨k, [], 0, a⟩ = signT k := by
      unfold SignN at h1
      show showK k [] 0 = _
      rw [showK, if_neg (by omega), if_neg (by omega), if_neg (by omega)]
    rw [e]
    exact show_sign k 0 a w h1
  · dsimp only at h
    injection h with h1 h2 h3
    subst h1 h2 h3
    exact show_end 0 a w
end Go.Proofs.YtajmhllldocpjaaDoor
