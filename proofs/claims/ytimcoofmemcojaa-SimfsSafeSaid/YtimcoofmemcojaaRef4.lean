/-
  The document's answer for layer 4: Do, of a file that went to another name.
-/
import Derived.Test.YtimcoofmemcojaaRef3
namespace Go.Proofs.Ytimcoofmemcojaa
open Go.ChangeShapes Go.WideShapes Go.ChangeAt Go.RowKit
variable {w : World}
set_option maxRecDepth 100000 in
set_option maxHeartbeats 8000000 in
theorem rdo_went {B : Nat} (v : Value) (l : List Und) (src dst : ByteArray) (f : Int) (hl : l.length ≤ 900000) (h : undAt B w v l) : Calls Try.prog 42 #[v, .agg #[.int .i64 1, .string src, .string dst, .int .i64 f]] w (DoIs w (withoutL (withoutL l src) dst ++ [(dst, atL l src)])) := by
  obtain ⟨i0, hi, hz0, hz1, hz2⟩ := info_parts info94
  have hf0 : Fresh w (w.alloc (.cells #[.int .i64 1, .string src, .string dst, .int .i64 f] 81)) := (Fresh.refl w).alloc _
  have HAT := Lib.hid (at_any v l src (by omega) (h.move hf0))
  generalize atL l src = x at *
  have hfa : Fresh w (w.alloc (.cells #[.int .i64 1, .string src, .string dst, .int .i64 f] 81)).drew := hf0.drew
  have hfb : Fresh w ((w.alloc (.cells #[.int .i64 1, .string src, .string dst, .int .i64 f] 81)).alloc (.cells #[.string dst, .int .i64 x] 94)).drew := (hf0.alloc _).drew
  have HFA := Lib.hid hfa
  have HFB := Lib.hid hfb
  have hlm0 := withoutL_len l src
  have hlm := withoutL_len (withoutL l src) dst
  have hm1 : (withoutL (withoutL l src) dst).length + 1 ≤ maxLen := by unfold maxLen; omega
  have hm2 : ((withoutL (withoutL l src) dst).length + 1) * 24 ≤ 140737488355328 := by omega
  have HWA : Hid (Calls Try.prog 50 #[v, .string src] _ (DoIs _ (withoutL l src))) := without_any v l src (by omega) (h.move hfa)
  have HWB : Hid (Calls Try.prog 50 #[v, .string src] _ (DoIs _ (withoutL l src))) := without_any v l src (by omega) (h.move hfb)
  have HW2 : Hid (∀ (W : World) (o : Value) (B : Nat), undAt B W o (withoutL l src) → Calls Try.prog 50 #[o, .string dst] W (DoIs W (withoutL (withoutL l src) dst))) := fun W o B hu => without_any o _ dst (by omega) hu
  generalize withoutL (withoutL l src) dst = m at *
  generalize withoutL l src = m0 at *
  clear h hfa hfb hf0
  go_enter Try.func42, Try.ntmps42
  go_wp2_with fail
  refine HAT.out.mono ?_
  rintro e w0 ⟨rfl, rfl⟩
  clear HAT
  have s1 : (w.alloc (.cells #[.int .i64 1, .string src, .string dst, .int .i64 f] 81)).cell? ⟨w.heap.size, 1, none⟩ = some (.string src) := cell_of_at (at_new w _) (i := 1) rfl
  have s2 : (w.alloc (.cells #[.int .i64 1, .string src, .string dst, .int .i64 f] 81)).cell? ⟨w.heap.size, 2, none⟩ = some (.string dst) := cell_of_at (at_new w _) (i := 2) rfl
  go_wp2_with fail
  have HUB : Hid (((w.alloc (.cells #[.int .i64 1, .string src, .string dst, .int .i64 f] 81)).alloc (.cells #[.string dst, .int .i64 x] 94)).drew.heap[w.heap.size + 1]? = some (.cells #[.string dst, .int .i64 x] 94)) := by
    have := at_new (w.alloc (.cells #[.int .i64 1, .string src, .string dst, .int .i64 f] 81)) (.cells #[.string dst, .int .i64 x] 94)
    rw [World.size_alloc] at this
    exact this
  go_region_law (first
    | (refine step_append_lies _ rfl (.tmp 33) (.tmp 38) 28 rfl w.heap.size 94 i0 _ 2 24 Try.underlying28 hi hz0 hz1 hz2 rfl (by decide) o2 m.length (undCells m) (by simp [Act.eval]) HXA.out.own ⟨w2.heap.size, 0, none⟩ 1 1 (Und.cells (dst, x)) (by simp [Act.eval]) rfl HXA.out.box (und_one _) (by omega) hm1 hm2 HXA.out.low _ rfl ?_; intro g cap w3 hown hgrow hat hlt; have HE := Lib.hid (do_out (W := w) HXA.out.own HFXA.out hown hgrow); clear hown hgrow hat hlt)
    | (refine step_append_lies _ rfl (.tmp 33) (.tmp 38) 28 rfl w.heap.size 94 i0 _ 2 24 Try.underlying28 hi hz0 hz1 hz2 rfl (by decide) o2 m.length (undCells m) (by simp [Act.eval]) HXM.out.own ⟨w1.heap.size, 0, none⟩ 1 1 (Und.cells (dst, x)) (by simp [Act.eval]) rfl HXM.out.box (und_one _) (by omega) hm1 hm2 HXM.out.low _ rfl ?_; intro g cap w3 hown hgrow hat hlt; have HE := Lib.hid (do_out (W := w) HXM.out.own HFXM.out hown hgrow); clear hown hgrow hat hlt)
    | (refine step_append_lies _ rfl (.tmp 33) (.tmp 38) 28 rfl w.heap.size 94 i0 _ 2 24 Try.underlying28 hi hz0 hz1 hz2 rfl (by decide) o2 m.length (undCells m) (by simp [Act.eval]) HXB.out.own ⟨w.heap.size + 1, 0, none⟩ 1 1 (Und.cells (dst, x)) (by simp [Act.eval]) rfl HXB.out.box (und_one _) (by omega) hm1 hm2 HXB.out.low _ rfl ?_; intro g cap w3 hown hgrow hat hlt; have HE := Lib.hid (do_out (W := w) HXB.out.own HFXB.out hown hgrow); clear hown hgrow hat hlt)
    | (go_simp; go_at_call 50; refine (HW2.out w1 o1 _ HO1.out).mono ?_; rintro e w2 ⟨o2, rfl, ho, hf2⟩; have kk2 := cell_of_at (hf2.at HB1.out) (i := 2) rfl; have HXA := Lib.hid (ready_after (B := w.heap.size) (dst, x) hsz1 ho hf2); have HFXA := Lib.hid ((HF1.out.trans hf2).alloc (.cells #[.string dst, .int .i64 x] 94)); clear ho hf2)
    | (go_simp; go_at_call 50; refine (HW2.out _ o1 _ HO1M.out).mono ?_; rintro e w2 ⟨o2, rfl, ho, hf2⟩; have HXM := Lib.hid (ready_before (B := w.heap.size) (X := w1.heap.size) (dst, x) hszM (at_new w1 (.cells #[.string dst, .int .i64 x] 94)) ho hf2); have HFXM := Lib.hid ((HF1.out.alloc (.cells #[.string dst, .int .i64 x] 94)).trans hf2); clear ho hf2)
    | (go_simp; go_at_call 50; refine (HW2.out w1 o1 _ HO1b.out).mono ?_; rintro e w2 ⟨o2, rfl, ho, hf2⟩; have HXB := Lib.hid (ready_before (B := w.heap.size) (X := w.heap.size + 1) (dst, x) hsz1 HU1.out ho hf2); have HFXB := Lib.hid (HF1.out.trans hf2); clear ho hf2)
    | (go_simp; go_at_call 50; refine HWA.out.mono ?_; rintro e w1 ⟨o1, rfl, ho, hf1⟩; have hb1 := hf1.at (at_new w (.cells #[.int .i64 1, .string src, .string dst, .int .i64 f] 81)); have k2 := cell_of_at hb1 (i := 2) rfl; have k2m := cell_of_at (at_alloc (p := (.cells #[.string dst, .int .i64 x] 94)) hb1) (i := 2) rfl; have hsz1 : w.heap.size ≤ w1.heap.size := (HFA.out.trans hf1).size; have hszM : w.heap.size ≤ (w1.alloc (.cells #[.string dst, .int .i64 x] 94)).heap.size := (Nat.le_trans hsz1 (by rw [World.size_alloc]; exact Nat.le_succ _)); have HO1 := Lib.hid ho; have HO1M := Lib.hid (ho.move ((Fresh.refl w1).alloc (.cells #[.string dst, .int .i64 x] 94))); have HF1 := Lib.hid (HFA.out.trans hf1); have HB1 := Lib.hid hb1; clear hb1 ho hf1)
    | (go_simp; go_at_call 50; refine HWB.out.mono ?_; rintro e w1 ⟨o1, rfl, ho, hf1⟩; have hb1 := hf1.at (at_alloc (p := (.cells #[.string dst, .int .i64 x] 94)) (at_new w (.cells #[.int .i64 1, .string src, .string dst, .int .i64 f] 81))); have k2 := cell_of_at hb1 (i := 2) rfl; have hsz1 : w.heap.size ≤ w1.heap.size := (HFB.out.trans hf1).size; have HO1b := Lib.hid ho; have HF1 := Lib.hid (HFB.out.trans hf1); have HU1 := Lib.hid (hf1.at HUB.out); clear hb1 ho hf1))
  all_goals
    go_wp2
    go_ret
    exact HE.out
end Go.Proofs.Ytimcoofmemcojaa
