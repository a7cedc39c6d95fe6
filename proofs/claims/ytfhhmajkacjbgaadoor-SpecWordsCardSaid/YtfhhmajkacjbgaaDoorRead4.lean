/-
  Package utf's Unquote of texts that are quoted well.
-/
import Derived.Test.YtfhhmajkacjbgaaDoorRead3
import Derived.IntWalk
namespace Go.Proofs.YtfhhmajkacjbgaaDoor
open Go.ChangeShapes Go.WideShapes Go.ChangeAt Go.RowKit
attribute [local go_sem ↓] Go.wp_at_zero Go.wp_at_succ
variable {w : World}

/-! ### what Unquote reads -/
/-- A piece of a quoted text, and what it says. -/
def Item (p m : List UInt8) : Prop := (∃ c cs, p = c :: cs ∧ c.toNat ≠ 34) ∧ ∀ (b : Nat) (rest : List UInt8) (v : Value) (text : List UInt8) (w : World), Tabs w → text.length ≤ 100000 → Rdr w b (p ++ rest) v text → Calls Tryd.prog 70 #[.pointer (some ⟨b, 0, none⟩)] w (Reads w b rest (text ++ m) 0)
/-- Such pieces, one behind the other. -/
inductive Un : List UInt8 → List UInt8 → Prop
  | nil : Un [] []
  | step (p m src out : List UInt8) : Item p m → Un src out → Un (p ++ src) (m ++ out)
/-- What Unquote answers. -/
def unqRes (src out : List UInt8) : Ending := if out.length ≤ 4096 then .returned (.tuple #[.string (bs out), .int .i64 ((src.length : Int) + 2), .int .i64 0]) else .returned (.tuple #[.string ⟨#[]⟩, .int .i64 0, .int .i64 2])
def restLen (w : World) (b : Nat) : Nat := match w.cell? ⟨b, 0, none⟩ with
  | some (.string s) => s.size
  | _ => 0
theorem Rdr.restLen {w : World} {b : Nat} {rest : List UInt8} {v : Value} {text : List UInt8} (h : Rdr w b rest v text) : YtfhhmajkacjbgaaDoor.restLen w b = rest.length := by
  rw [YtfhhmajkacjbgaaDoor.restLen, h.c0]
  exact bs_size rest
set_option maxRecDepth 100000 in
set_option maxHeartbeats 4000000 in
theorem unquote_any (src out behind : List UInt8) (w : World) (hU : Un src out) (ho : out.length ≤ 100000) (hs : src.length + behind.length ≤ 1000000) (hT : Tabs w) :
    Calls Tryd.prog 43 #[.string (bs (34 :: (src ++ 34 :: behind)))] w fun e w' => e = unqRes src out ∧ Fresh w w' := by
  have HU := Lib.hid hU
  have HT := Lib.hid hT
  have HZ : Hid ((bs (34 :: (src ++ 34 :: behind))).size = src.length + behind.length + 2) := by rw [Hid, bs_size]; simp; omega
  obtain ⟨p1, p2, p3, p4⟩ := bs_cons 34 (src ++ 34 :: behind)
  generalize bs (34 :: (src ++ 34 :: behind)) = r at *
  have H0 : Hid (Rdr (w.alloc (.cells #[.string (bs (src ++ 34 :: behind)), .slice none 0 0] 103)) w.heap.size (src ++ 34 :: behind) (.slice none 0 0) []) :=
    ⟨at_new w _, World.ownsRow_nil _ _ _ _⟩
  have HF0 := Lib.hid ((Fresh.refl w).alloc (.cells #[.string (bs (src ++ 34 :: behind)), .slice none 0 0] 103))
  generalize bs (src ++ 34 :: behind) = r1 at *
  clear hU hT
  go_enter Tryd.func43, Tryd.ntmps43
  go_wp2
  go_loopw [4] (fun a4 wr => a4 = .int .i64 0 ∧ ∃ (t1 src2 out2 : List UInt8) (v : Value), Hid (Un src2 out2) ∧ Hid (out = t1 ++ out2) ∧ Hid (Rdr wr w.heap.size (src2 ++ 34 :: behind) v t1) ∧ Hid (Fresh w wr)) (fun _ wr => restLen wr w.heap.size)
  case atStart => exact ⟨rfl, [], src, out, .slice none 0 0, HU.out, rfl, H0.out, HF0.out⟩
  case round =>
    obtain ⟨rfl, t1, src2, out2, v, HU2, HO, HR, HF⟩ := hrel
    clear H0 HF0
    have hu := HU2.out
    rcases hu with _ | ⟨p, m, src3, out3, hi, hu3⟩
    · have HR2 : Hid (Rdr wr w.heap.size (34 :: behind) v t1) := HR.out
      have HO2 : Hid (out = t1) := by rw [Hid, HO.out, List.append_nil]
      clear HU2 HO HR
      go_wp2_with fail
      refine (mark_yes _ behind v t1 _ HR2.out).mono ?_
      rintro e w' ⟨rfl, rfl⟩
      have c0 := HR2.out.c0
      have c1 := HR2.out.c1
      have hb1 : r.size ≤ 1000002 := by rw [HZ.out]; omega
      have HZ2 : Hid ((bs (34 :: behind)).size = behind.length + 1) := by rw [Hid, bs_size]; rfl
      have hb2 : (bs (34 :: behind)).size ≤ 1000001 := by rw [HZ2.out]; omega
      have hb3 : (bs (34 :: behind)).size ≤ r.size := by rw [HZ2.out, HZ.out]; omega
      have HEQ : Hid ((r.size : Int) - ((bs (34 :: behind)).size : Int) + 1 = (src.length : Int) + 2) := by rw [Hid, HZ.out, HZ2.out]; omega
      generalize bs (34 :: behind) = r2 at *
      have hbuf := HR2.out.buf
      rcases hbuf with ⟨hl, ⟨rfl, hl0⟩ | ⟨g, cap, cur, rfl, hg1, hg2, hg3, hg4, hg5, hg6⟩⟩
      · obtain rfl : t1 = [] := by cases t1 with
          | nil => rfl
          | cons => simp at hl0
        have hcv := text_nil wr.drew
        clear hl hl0
        have HE : Hid (unqRes src out = .returned (.tuple #[.string (bs out), .int .i64 ((src.length : Int) + 2), .int .i64 0])) := by rw [Hid, unqRes, if_pos (by rw [HO2.out]; simp)]
        go_wp2
        have w1 : IntKind.i64.wrap ((r.size : Int) - (r2.size : Int)) = (r.size : Int) - (r2.size : Int) := IntWalk.i64_in _ (by omega)
        have w2 : IntKind.i64.wrap ((r.size : Int) - (r2.size : Int) + 1) = (r.size : Int) - (r2.size : Int) + 1 := IntWalk.i64_in _ (by omega)
        go_region_held3 (fun w' => (w'.cell? ⟨w.heap.size, 0, none⟩ = some (.string r2) ∧ w'.cell? ⟨w.heap.size, 1, none⟩ = some (.slice none 0 0) ∧ (convert 101 9 (.slice none 0 0)).run Tryd.prog w' = .ok (.string ⟨#[]⟩) w')) (go_keep) ((fail))
        all_goals
          go_wp2
          refine bodyPost_ret (v := .tuple #[.string (bs []), .int .i64 ((r.size : Int) - (r2.size : Int) + 1), .int .i64 0]) (by simp [results, Tryd.results43, go_sem, bs]) rfl ⟨?_, HF.out.drew⟩
          rw [HE.out, HO2.out, HEQ.out]
      · have hcv : (convert 101 9 (.slice (some ⟨g, 0, none⟩) t1.length cap)).run Tryd.prog wr.drew = .ok (.string (bs t1)) wr.drew := (Buf.text HR2.out.buf.drew).2
        clear hl hg1 hg2 hg3 hg4 hg5 hg6
        by_cases h4 : t1.length ≤ 4096
        · have h4' : ¬ 4096 < t1.length := by omega
          have HE : Hid (unqRes src out = .returned (.tuple #[.string (bs out), .int .i64 ((src.length : Int) + 2), .int .i64 0])) := by rw [Hid, unqRes, if_pos (by rw [HO2.out]; exact h4)]
          go_wp2
          have w1 : IntKind.i64.wrap ((r.size : Int) - (r2.size : Int)) = (r.size : Int) - (r2.size : Int) := IntWalk.i64_in _ (by omega)
          have w2 : IntKind.i64.wrap ((r.size : Int) - (r2.size : Int) + 1) = (r.size : Int) - (r2.size : Int) + 1 := IntWalk.i64_in _ (by omega)
          go_region_held3 (fun w' => (w'.cell? ⟨w.heap.size, 0, none⟩ = some (.string r2) ∧ w'.cell? ⟨w.heap.size, 1, none⟩ = some (.slice (some ⟨g, 0, none⟩) t1.length cap) ∧ (convert 101 9 (.slice (some ⟨g, 0, none⟩) t1.length cap)).run Tryd.prog w' = .ok (.string (bs t1)) w')) (go_keep) ((fail))
          all_goals
            go_wp2
            refine bodyPost_ret (v := .tuple #[.string (bs t1), .int .i64 ((r.size : Int) - (r2.size : Int) + 1), .int .i64 0]) (by simp [results, Tryd.results43, go_sem]) rfl ⟨?_, HF.out.drew⟩
            rw [HE.out, HO2.out, HEQ.out]
        · have h4' : 4096 < t1.length := by omega
          have HE : Hid (unqRes src out = .returned (.tuple #[.string ⟨#[]⟩, .int .i64 0, .int .i64 2])) := by rw [Hid, unqRes, if_neg (by rw [HO2.out]; exact h4)]
          go_wp2
          refine bodyPost_ret (v := .tuple #[.string ⟨#[]⟩, .int .i64 0, .int .i64 2]) (by simp [results, Tryd.results43, go_sem]) rfl ⟨?_, HF.out⟩
          rw [HE.out]
    · obtain ⟨⟨c, cs, rfl, hc⟩, hI⟩ := hi
      have HR2 : Hid (Rdr wr w.heap.size ((c :: cs) ++ (src3 ++ 34 :: behind)) v t1) := by rw [Hid, ← List.append_assoc]; exact HR.out
      have HO2 : Hid (out = (t1 ++ m) ++ out3) := by rw [Hid, HO.out, List.append_assoc]
      have HI := Lib.hid (hI w.heap.size (src3 ++ 34 :: behind) v t1 wr (HT.out.move HF.out) (by have := congrArg List.length HO.out; rw [List.length_append] at this; omega) HR2.out)
      have HU3 := Lib.hid hu3
      have HM : Hid (restLen wr w.heap.size = ((c :: cs) ++ (src3 ++ 34 :: behind)).length) := HR2.out.restLen
      clear HU2 hu3 hI HR
      go_wp2_with fail
      refine (mark_no _ c (cs ++ (src3 ++ 34 :: behind)) v t1 _ hc HR2.out).mono ?_
      rintro e w' ⟨rfl, rfl⟩
      go_wp2_with fail
      refine HI.out.mono ?_
      rintro e w2 ⟨rfl, ⟨v2, hr2⟩, hb2⟩
      have HR3 := Lib.hid hr2
      have HF3 := Lib.hid (HF.out.below hb2 (Nat.le_refl _))
      clear hr2 hb2
      go_wp2
      go_roundw
      case rel => exact ⟨rfl, t1 ++ m, src3, out3, v2, HU3.out, HO2.out, HR3.out, HF3.out⟩
      case measure => rw [HM.out, HR3.out.restLen]; simp; omega
end Go.Proofs.YtfhhmajkacjbgaaDoor
