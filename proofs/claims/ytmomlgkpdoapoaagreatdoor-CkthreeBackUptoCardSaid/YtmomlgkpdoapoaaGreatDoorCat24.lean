/-
  A text of a Command, a port, a variable more (printed by genc3.py.txt).
  As XChain, with one operation more that turns memory (an alloc), which may come up at any time.
-/
import Derived.Test.YtmomlgkpdoapoaaGreatDoorCat23
import Derived.Test.YtmomlgkpdoapoaaGreatDoorCat03
set_option linter.unusedSimpArgs false
set_option linter.unusedVariables false
namespace Go.Proofs.YtmomlgkpdoapoaaGreatDoor.K
open Go.ChangeShapes Go.WideShapes Go.ChangeAt Go.RowKit
set_option maxRecDepth 100000
set_option linter.unusedSimpArgs false

theorem infoPt : (Tryz.prog.info? 97).map (fun i => (i.zero, i.size, i.bytes)) = some (some (.agg #[.int .i64 0, .int .i64 0]), 2, 16) := by kernel_rfl
theorem infoEn : (Tryz.prog.info? 98).map (fun i => (i.zero, i.size, i.bytes)) = some (some (.agg #[.string ⟨#[]⟩, .string ⟨#[]⟩]), 2, 32) := by kernel_rfl
theorem flat_snoc {μ : Type} (enc : μ → List Value) (D : List μ) (m : μ) : (D ++ [m]).flatMap enc = D.flatMap enc ++ enc m := by simp
attribute [-go_sem] Go.Builtin.append_
set_option maxHeartbeats 4000000 in
theorem cmd_step (b p z : Nat) (name image : ByteArray) (v2 v3 v6 : Value) (cpu mem : Int) (w0 : World) (hb : b < w0.heap.size) (hzw : w0.heap.size ≤ z) :
    LStep textT id tcell (fun _ _ => True) b p z 94 9 1 (fun v => #[.string name, .string image, v, v3, .int .i64 cpu, .int .i64 mem, v6]) w0 103 := by
  intro k o c D wL s W0 s' e' x hk hs hP hx
  obtain ⟨i0, hi, hz0, hz1, hz2⟩ := info_parts infoS
  go_enter Tryz.func103, Tryz.ntmps103
  go_wp2_with (fail)
  refine chain_region [5, 6, 7, 9] [some (Value.pointer (some ⟨z, 2, none⟩)), some (Value.slice o k c), some (Value.pointer (some ⟨b, 0, none⟩)), some (Value.pointer (some ⟨b, 0, none⟩)), some (Value.pointer (some ⟨b, 0, none⟩)), none, none, none, some (Value.pointer (some ⟨z, 2, none⟩)), none] (LayI b p z 2 94 9 1 k ((fun v => #[.string name, .string image, v, v3, .int .i64 cpu, .int .i64 mem, v6]) (.slice o k c)) (.slice o k c) (D.flatMap tcell) w0 W0 1 [(s, 0), (s', e')] (fun _ => [.string x]) (fun _ => [.string x]) (fun _ _ _ => True)) mixed3 (n := 11) rfl (by decide +kernel) (ms := [true, true, true, true, true, false, false, false, true, false]) rfl (by decide +kernel) (LayI.start (()) (Ph.drew ⟨hP.mv, hP.pt, hP.bx, hP.own, .refl _ _ _⟩) rfl trivial) ⟨?_, ?_, ?_, ?_, ?_, ?_, ?_, ?_, ?_, ?_, trivial⟩ ?_
  · intro h a W hI hlo hhi hpos hvw hvr hst
    have g0 := ev_get (show a.eval (.tmp 0) = Value.pointer (some ⟨z, 0, none⟩) from hst 0 (by decide +kernel))
    show (execOp a.eval _).run _ W = .ok (.value (Value.pointer (some ⟨z, 2, none⟩))) W
    simp [execOp, g0, go_sem]
  · intro h a W hI hlo hhi hpos hvw hvr hst
    have g2 := ev_get (show a.eval (.tmp 2) = Value.pointer (some ⟨z, 2, none⟩) from hvr 0 2 _ (by decide +kernel) rfl rfl)
    have q := LayI.bx hI (hhi 2 7 rfl (by decide +kernel))
    have cq := cell_of_at q.1 (i := 2) rfl
    show (execOp a.eval _).run _ W = .ok (.value (Value.slice o k c)) W
    simp [execOp, g2, go_sem, cq]
  · intro h a W hI hlo hhi hpos hvw hvr hst
    have g1 := ev_get (show a.eval (.tmp 1) = Value.pointer (some ⟨p, 0, none⟩) from hst 1 (by decide +kernel))
    have q := LayI.bx hI (Nat.le_trans (hhi 0 5 rfl (by decide +kernel)) (by decide))
    have cq := cell_of_at q.2 (i := 0) rfl
    show (execOp a.eval _).run _ W = .ok (.value (Value.pointer (some ⟨b, 0, none⟩))) W
    simp [execOp, g1, go_sem, cq]
  · intro h a W hI hlo hhi hpos hvw hvr hst
    have g4 := ev_get (show a.eval (.tmp 4) = Value.pointer (some ⟨b, 0, none⟩) from hvr 2 4 _ (by decide +kernel) rfl rfl)
    show (execOp a.eval _).run _ W = .ok (.value (Value.pointer (some ⟨b, 0, none⟩))) W
    simp [execOp, g4, go_sem]
  · intro h a W hI hlo hhi hpos hvw hvr hst
    have g5 := ev_get (show a.eval (.tmp 5) = Value.pointer (some ⟨b, 0, none⟩) from hvr 3 5 _ (by decide +kernel) rfl rfl)
    show (execOp a.eval _).run _ W = .ok (.value (Value.pointer (some ⟨b, 0, none⟩))) W
    simp [execOp, g5, go_sem]
  · intro h a W hI hlo hhi hpos hvw hvr hst
    obtain rfl := lst0 (hpos 0 rfl)
    have g6 := ev_get (show a.eval (.tmp 6) = Value.pointer (some ⟨b, 0, none⟩) from hvr 4 6 _ (by decide +kernel) rfl rfl)
    refine .inr (.inr ⟨43, #[.pointer (some ⟨b, 0, none⟩)], by simp [execOp, g6, go_sem], (ttext_at W hs (LayI.ph hI (by simp) rfl).mv.isT hx).mono ?_⟩)
    rintro r V ⟨rfl, hm⟩
    exact ⟨_, rfl, LayI.more hI (by simp) rfl ((LayI.ph hI (by simp) rfl).call hm hb (by decide)) id (fun _ _ _ => ⟨fun _ _ => rfl, rfl, trivial⟩)⟩
  · intro h a W hI hlo hhi hpos hvw hvr hst
    obtain ⟨y0, rfl⟩ := lst1 (hpos 1 rfl)
    have g7 := ev_get (hvw 0 5 7 y0 rfl rfl rfl)
    obtain rfl : y0 = .string x := by simpa using LayI.val hI 0 (.string x) (fun _ => rfl) (by simp)
    obtain ⟨u, s9, e9, q0, q1, q2, q3⟩ := LayI.last hI rfl
    exact .inl ⟨.slice (some ⟨W.heap.size, 0, none⟩) 1 1, W.alloc (.cells #[.string x] 9), by simp [execOp, g7, go_sem], LayI.slice (x := u) rfl (by simp) q0 q1 q2 q3⟩
  · intro h a W hI hlo hhi hpos hvw hvr hst
    obtain ⟨y0, y1, rfl⟩ := lst2 (hpos 2 rfl)
    have g3 := ev_get (show a.eval (.tmp 3) = Value.slice o k c from hvr 1 3 _ (by decide +kernel) rfl rfl)
    have g8 := ev_get (hvw 1 6 8 y1 rfl rfl rfl)
    obtain ⟨y, g, cap, w3, q0, hrun, hL⟩ := LayI.app (tl := 79) (fun _ => by simp) rfl Tryz.underlying79 hi hz0 hz1 hz2 rfl (by decide) hb hzw (by decide) (fun _ => rfl) (fun _ => by simp [Value.oneCell']) (by omega) (by omega) hI rfl
    obtain rfl : y1 = y := by simpa using q0
    exact .inl ⟨_, w3, by simp [execOp, g3, g8, go_sem, hrun], hL⟩
  · intro h a W hI hlo hhi hpos hvw hvr hst
    have g0 := ev_get (show a.eval (.tmp 0) = Value.pointer (some ⟨z, 0, none⟩) from hst 0 (by decide +kernel))
    show (execOp a.eval _).run _ W = .ok (.value (Value.pointer (some ⟨z, 2, none⟩))) W
    simp [execOp, g0, go_sem]
  · intro h a W hI hlo hhi hpos hvw hvr hst
    obtain ⟨y0, y1, y2, rfl⟩ := lst3 (hpos 3 rfl)
    have g9 := ev_get (hvw 2 7 9 y2 rfl rfl rfl)
    have g10 := ev_get (show a.eval (.tmp 10) = Value.pointer (some ⟨z, 2, none⟩) from hvr 8 10 _ (by decide +kernel) rfl rfl)
    obtain ⟨g, cap, q0, hz, hL⟩ := LayI.store (fun _ => by simp) hI rfl
    obtain rfl : y2 = _ := by simpa using q0
    have cq := cell_of_at hz (i := 2) rfl
    have f := frozen_of_at hz 2
    exact .inr (.inl ⟨_, rfl, by simp [execOp, g9, g10, go_sem, cq, f], hL⟩)
  intro h a W hh hl
  obtain ⟨x9, W2, g, cap, hE, hP2, hfr, hPf⟩ := LayI.fin hh.inv hl rfl (by decide) (by decide)
  
  refine bodyPost_end (results_none rfl _ _ _) hh.defers ?_
  refine ⟨rfl, g, cap, x, ⟨hPf.mv, hPf.pt, hPf.bx, by rw [flat_snoc]; exact hPf.own, hP.fr.trans hPf.fr⟩, fun _ => rfl, trivial, hPf.fr⟩
set_option maxHeartbeats 4000000 in
theorem port_step (b p z : Nat) (name image : ByteArray) (v2 v3 v6 : Value) (cpu mem : Int) (w0 : World) (hb : b < w0.heap.size) (hzw : w0.heap.size ≤ z) :
    LStep portT id pcell (fun _ _ => True) b p z 94 97 2 (fun v => #[.string name, .string image, v2, v, .int .i64 cpu, .int .i64 mem, v6]) w0 104 := by
  intro k o c D wL s W0 s' e' x hk hs hP hx
  obtain ⟨i0, hi, hz0, hz1, hz2⟩ := info_parts infoPt
  go_enter Tryz.func104, Tryz.ntmps104
  go_wp2_with (fail)
  refine chain_region [3, 4, 5, 7] [some (Value.pointer (some ⟨z, 3, none⟩)), some (Value.slice o k c), some (Value.pointer (some ⟨b, 0, none⟩)), none, none, none, some (Value.pointer (some ⟨z, 3, none⟩)), none] (LayI b p z 3 94 97 2 k ((fun v => #[.string name, .string image, v2, v, .int .i64 cpu, .int .i64 mem, v6]) (.slice o k c)) (.slice o k c) (D.flatMap pcell) w0 W0 1 [(s, 0), (s', e')] (fun _ => [.agg #[.int .i64 x.1, .int .i64 x.2]]) (fun _ => [.int .i64 x.1, .int .i64 x.2]) (fun _ _ _ => True)) mixed3 (n := 9) rfl (by decide +kernel) (ms := [true, true, true, false, false, false, true, false]) rfl (by decide +kernel) (LayI.start (()) (Ph.drew ⟨hP.mv, hP.pt, hP.bx, hP.own, .refl _ _ _⟩) rfl trivial) ⟨?_, ?_, ?_, ?_, ?_, ?_, ?_, ?_, trivial⟩ ?_
  · intro h a W hI hlo hhi hpos hvw hvr hst
    have g0 := ev_get (show a.eval (.tmp 0) = Value.pointer (some ⟨z, 0, none⟩) from hst 0 (by decide +kernel))
    show (execOp a.eval _).run _ W = .ok (.value (Value.pointer (some ⟨z, 3, none⟩))) W
    simp [execOp, g0, go_sem]
  · intro h a W hI hlo hhi hpos hvw hvr hst
    have g2 := ev_get (show a.eval (.tmp 2) = Value.pointer (some ⟨z, 3, none⟩) from hvr 0 2 _ (by decide +kernel) rfl rfl)
    have q := LayI.bx hI (hhi 2 5 rfl (by decide +kernel))
    have cq := cell_of_at q.1 (i := 3) rfl
    show (execOp a.eval _).run _ W = .ok (.value (Value.slice o k c)) W
    simp [execOp, g2, go_sem, cq]
  · intro h a W hI hlo hhi hpos hvw hvr hst
    have g1 := ev_get (show a.eval (.tmp 1) = Value.pointer (some ⟨p, 0, none⟩) from hst 1 (by decide +kernel))
    have q := LayI.bx hI (Nat.le_trans (hhi 0 3 rfl (by decide +kernel)) (by decide))
    have cq := cell_of_at q.2 (i := 0) rfl
    show (execOp a.eval _).run _ W = .ok (.value (Value.pointer (some ⟨b, 0, none⟩))) W
    simp [execOp, g1, go_sem, cq]
  · intro h a W hI hlo hhi hpos hvw hvr hst
    obtain rfl := lst0 (hpos 0 rfl)
    have g4 := ev_get (show a.eval (.tmp 4) = Value.pointer (some ⟨b, 0, none⟩) from hvr 2 4 _ (by decide +kernel) rfl rfl)
    refine .inr (.inr ⟨105, #[.pointer (some ⟨b, 0, none⟩)], by simp [execOp, g4, go_sem], (port3_any b s s' 0 e' x W hs (LayI.ph hI (by simp) rfl).mv.isT hx).mono ?_⟩)
    rintro r V ⟨rfl, hm⟩
    exact ⟨_, rfl, LayI.more hI (by simp) rfl ((LayI.ph hI (by simp) rfl).call hm hb (by decide)) id (fun _ _ _ => ⟨fun _ _ => rfl, rfl, trivial⟩)⟩
  · intro h a W hI hlo hhi hpos hvw hvr hst
    obtain ⟨y0, rfl⟩ := lst1 (hpos 1 rfl)
    have g5 := ev_get (hvw 0 3 5 y0 rfl rfl rfl)
    obtain rfl : y0 = .agg #[.int .i64 x.1, .int .i64 x.2] := by simpa using LayI.val hI 0 (.agg #[.int .i64 x.1, .int .i64 x.2]) (fun _ => rfl) (by simp)
    obtain ⟨u, s9, e9, q0, q1, q2, q3⟩ := LayI.last hI rfl
    exact .inl ⟨.slice (some ⟨W.heap.size, 0, none⟩) 1 1, W.alloc (.cells #[.int .i64 x.1, .int .i64 x.2] 97), by simp [execOp, g5, go_sem], LayI.slice (x := u) rfl (by simp) q0 q1 q2 q3⟩
  · intro h a W hI hlo hhi hpos hvw hvr hst
    obtain ⟨y0, y1, rfl⟩ := lst2 (hpos 2 rfl)
    have g3 := ev_get (show a.eval (.tmp 3) = Value.slice o k c from hvr 1 3 _ (by decide +kernel) rfl rfl)
    have g6 := ev_get (hvw 1 4 6 y1 rfl rfl rfl)
    obtain ⟨y, g, cap, w3, q0, hrun, hL⟩ := LayI.app (tl := 91) (fun _ => by simp) rfl Tryz.underlying91 hi hz0 hz1 hz2 rfl (by decide) hb hzw (by decide) (fun _ => rfl) (fun _ => by simp [Value.oneCell']) (by omega) (by omega) hI rfl
    obtain rfl : y1 = y := by simpa using q0
    exact .inl ⟨_, w3, by simp [execOp, g3, g6, go_sem, hrun], hL⟩
  · intro h a W hI hlo hhi hpos hvw hvr hst
    have g0 := ev_get (show a.eval (.tmp 0) = Value.pointer (some ⟨z, 0, none⟩) from hst 0 (by decide +kernel))
    show (execOp a.eval _).run _ W = .ok (.value (Value.pointer (some ⟨z, 3, none⟩))) W
    simp [execOp, g0, go_sem]
  · intro h a W hI hlo hhi hpos hvw hvr hst
    obtain ⟨y0, y1, y2, rfl⟩ := lst3 (hpos 3 rfl)
    have g7 := ev_get (hvw 2 5 7 y2 rfl rfl rfl)
    have g8 := ev_get (show a.eval (.tmp 8) = Value.pointer (some ⟨z, 3, none⟩) from hvr 6 8 _ (by decide +kernel) rfl rfl)
    obtain ⟨g, cap, q0, hz, hL⟩ := LayI.store (fun _ => by simp) hI rfl
    obtain rfl : y2 = _ := by simpa using q0
    have cq := cell_of_at hz (i := 3) rfl
    have f := frozen_of_at hz 3
    exact .inr (.inl ⟨_, rfl, by simp [execOp, g7, g8, go_sem, cq, f], hL⟩)
  intro h a W hh hl
  obtain ⟨x9, W2, g, cap, hE, hP2, hfr, hPf⟩ := LayI.fin hh.inv hl rfl (by decide) (by decide)
  
  refine bodyPost_end (results_none rfl _ _ _) hh.defers ?_
  refine ⟨rfl, g, cap, x, ⟨hPf.mv, hPf.pt, hPf.bx, by rw [flat_snoc]; exact hPf.own, hP.fr.trans hPf.fr⟩, fun _ => rfl, trivial, hPf.fr⟩
set_option maxHeartbeats 4000000 in
theorem env_step (b p z : Nat) (name image : ByteArray) (v2 v3 v6 : Value) (cpu mem : Int) (w0 : World) (hb : b < w0.heap.size) (hzw : w0.heap.size ≤ z) :
    LStep envT id ecell (fun _ _ => True) b p z 94 98 2 (fun v => #[.string name, .string image, v2, v3, .int .i64 cpu, .int .i64 mem, v]) w0 106 := by
  intro k o c D wL s W0 s' e' x hk hs hP hx
  obtain ⟨i0, hi, hz0, hz1, hz2⟩ := info_parts infoEn
  obtain ⟨t1, d1, x1, h1⟩ : ∃ t1 d1 x1, textT s 0 = (t1, d1, x1) := ⟨_, _, _, rfl⟩
  obtain ⟨t2, d2, x2, h2⟩ : ∃ t2 d2 x2, textT t1 d1 = (t2, d2, x2) := ⟨_, _, _, rfl⟩
  rw [envT, andT_eq h1, andT_eq h2] at hx
  simp only [retT, Prod.mk.injEq] at hx
  obtain ⟨rfl, rfl, rfl⟩ := hx
  have hs1 : t1.size ≤ maxLen := Nat.le_trans (textT_len h1).1 hs
  go_enter Tryz.func106, Tryz.ntmps106
  go_wp2_with (fail)
  refine chain_region [5, 9, 10, 11, 12, 14] [some (Value.pointer (some ⟨z, 6, none⟩)), some (Value.slice o k c), some (Value.pointer (some ⟨b, 0, none⟩)), some (Value.pointer (some ⟨b, 0, none⟩)), some (Value.pointer (some ⟨b, 0, none⟩)), none, some (Value.pointer (some ⟨b, 0, none⟩)), some (Value.pointer (some ⟨b, 0, none⟩)), some (Value.pointer (some ⟨b, 0, none⟩)), none, none, none, none, some (Value.pointer (some ⟨z, 6, none⟩)), none] (LayI b p z 6 94 98 2 k ((fun v => #[.string name, .string image, v2, v3, .int .i64 cpu, .int .i64 mem, v]) (.slice o k c)) (.slice o k c) (D.flatMap ecell) w0 W0 3 [(s, 0), (t1, d1), (t2, d2), (t2, d2)] (fun _ => [.string x1, .string x2, .agg #[.string x1, .string x2]]) (fun _ => [.string x1, .string x2]) (fun _ _ _ => True)) mixed3 (n := 16) rfl (by decide +kernel) (ms := [true, true, true, true, true, false, true, true, true, false, false, false, false, true, false]) rfl (by decide +kernel) (LayI.start (()) (Ph.drew ⟨hP.mv, hP.pt, hP.bx, hP.own, .refl _ _ _⟩) rfl trivial) ⟨?_, ?_, ?_, ?_, ?_, ?_, ?_, ?_, ?_, ?_, ?_, ?_, ?_, ?_, ?_, trivial⟩ ?_
  · intro h a W hI hlo hhi hpos hvw hvr hst
    have g0 := ev_get (show a.eval (.tmp 0) = Value.pointer (some ⟨z, 0, none⟩) from hst 0 (by decide +kernel))
    show (execOp a.eval _).run _ W = .ok (.value (Value.pointer (some ⟨z, 6, none⟩))) W
    simp [execOp, g0, go_sem]
  · intro h a W hI hlo hhi hpos hvw hvr hst
    have g2 := ev_get (show a.eval (.tmp 2) = Value.pointer (some ⟨z, 6, none⟩) from hvr 0 2 _ (by decide +kernel) rfl rfl)
    have q := LayI.bx hI (hhi 4 12 rfl (by decide +kernel))
    have cq := cell_of_at q.1 (i := 6) rfl
    show (execOp a.eval _).run _ W = .ok (.value (Value.slice o k c)) W
    simp [execOp, g2, go_sem, cq]
  · intro h a W hI hlo hhi hpos hvw hvr hst
    have g1 := ev_get (show a.eval (.tmp 1) = Value.pointer (some ⟨p, 0, none⟩) from hst 1 (by decide +kernel))
    have q := LayI.bx hI (Nat.le_trans (hhi 0 5 rfl (by decide +kernel)) (by decide))
    have cq := cell_of_at q.2 (i := 0) rfl
    show (execOp a.eval _).run _ W = .ok (.value (Value.pointer (some ⟨b, 0, none⟩))) W
    simp [execOp, g1, go_sem, cq]
  · intro h a W hI hlo hhi hpos hvw hvr hst
    have g4 := ev_get (show a.eval (.tmp 4) = Value.pointer (some ⟨b, 0, none⟩) from hvr 2 4 _ (by decide +kernel) rfl rfl)
    show (execOp a.eval _).run _ W = .ok (.value (Value.pointer (some ⟨b, 0, none⟩))) W
    simp [execOp, g4, go_sem]
  · intro h a W hI hlo hhi hpos hvw hvr hst
    have g5 := ev_get (show a.eval (.tmp 5) = Value.pointer (some ⟨b, 0, none⟩) from hvr 3 5 _ (by decide +kernel) rfl rfl)
    show (execOp a.eval _).run _ W = .ok (.value (Value.pointer (some ⟨b, 0, none⟩))) W
    simp [execOp, g5, go_sem]
  · intro h a W hI hlo hhi hpos hvw hvr hst
    obtain rfl := lst0 (hpos 0 rfl)
    have g6 := ev_get (show a.eval (.tmp 6) = Value.pointer (some ⟨b, 0, none⟩) from hvr 4 6 _ (by decide +kernel) rfl rfl)
    refine .inr (.inr ⟨43, #[.pointer (some ⟨b, 0, none⟩)], by simp [execOp, g6, go_sem], (ttext_at W hs (LayI.ph hI (by simp) rfl).mv.isT h1).mono ?_⟩)
    rintro r V ⟨rfl, hm⟩
    exact ⟨_, rfl, LayI.more hI (by simp) rfl ((LayI.ph hI (by simp) rfl).call hm hb (by decide)) id (fun _ _ _ => ⟨fun _ _ => rfl, rfl, trivial⟩)⟩
  · intro h a W hI hlo hhi hpos hvw hvr hst
    have g1 := ev_get (show a.eval (.tmp 1) = Value.pointer (some ⟨p, 0, none⟩) from hst 1 (by decide +kernel))
    have q := LayI.bx hI (Nat.le_trans (hhi 1 9 rfl (by decide +kernel)) (by decide))
    have cq := cell_of_at q.2 (i := 0) rfl
    show (execOp a.eval _).run _ W = .ok (.value (Value.pointer (some ⟨b, 0, none⟩))) W
    simp [execOp, g1, go_sem, cq]
  · intro h a W hI hlo hhi hpos hvw hvr hst
    have g8 := ev_get (show a.eval (.tmp 8) = Value.pointer (some ⟨b, 0, none⟩) from hvr 6 8 _ (by decide +kernel) rfl rfl)
    show (execOp a.eval _).run _ W = .ok (.value (Value.pointer (some ⟨b, 0, none⟩))) W
    simp [execOp, g8, go_sem]
  · intro h a W hI hlo hhi hpos hvw hvr hst
    have g9 := ev_get (show a.eval (.tmp 9) = Value.pointer (some ⟨b, 0, none⟩) from hvr 7 9 _ (by decide +kernel) rfl rfl)
    show (execOp a.eval _).run _ W = .ok (.value (Value.pointer (some ⟨b, 0, none⟩))) W
    simp [execOp, g9, go_sem]
  · intro h a W hI hlo hhi hpos hvw hvr hst
    obtain ⟨y0, rfl⟩ := lst1 (hpos 1 rfl)
    have g10 := ev_get (show a.eval (.tmp 10) = Value.pointer (some ⟨b, 0, none⟩) from hvr 8 10 _ (by decide +kernel) rfl rfl)
    obtain rfl : y0 = .string x1 := by simpa using LayI.val hI 0 (.string x1) (fun _ => rfl) (by simp)
    refine .inr (.inr ⟨43, #[.pointer (some ⟨b, 0, none⟩)], by simp [execOp, g10, go_sem], (ttext_at W hs1 (LayI.ph hI (by simp) rfl).mv.isT h2).mono ?_⟩)
    rintro r V ⟨rfl, hm⟩
    exact ⟨_, rfl, LayI.more hI (by simp) rfl ((LayI.ph hI (by simp) rfl).call hm hb (by decide)) id (fun _ _ _ => ⟨fun _ _ => rfl, rfl, trivial⟩)⟩
  · intro h a W hI hlo hhi hpos hvw hvr hst
    obtain ⟨y0, y1, rfl⟩ := lst2 (hpos 2 rfl)
    have g7 := ev_get (hvw 0 5 7 y0 rfl rfl rfl)
    have g11 := ev_get (hvw 1 9 11 y1 rfl rfl rfl)
    obtain rfl : y0 = .string x1 := by simpa using LayI.val hI 0 (.string x1) (fun _ => rfl) (by simp)
    obtain rfl : y1 = .string x2 := by simpa using LayI.val hI 1 (.string x2) (fun _ => rfl) (by simp)
    exact .inl ⟨.agg #[.string x1, .string x2], W, by simp [execOp, g7, g11, go_sem], LayI.more hI (by simp) rfl (LayI.ph hI (by simp) rfl) id (fun _ _ _ => ⟨fun _ _ => rfl, rfl, trivial⟩)⟩
  · intro h a W hI hlo hhi hpos hvw hvr hst
    obtain ⟨y0, y1, y2, rfl⟩ := lst3 (hpos 3 rfl)
    have g12 := ev_get (hvw 2 10 12 y2 rfl rfl rfl)
    obtain rfl : y0 = .string x1 := by simpa using LayI.val hI 0 (.string x1) (fun _ => rfl) (by simp)
    obtain rfl : y1 = .string x2 := by simpa using LayI.val hI 1 (.string x2) (fun _ => rfl) (by simp)
    obtain rfl : y2 = .agg #[.string x1, .string x2] := by simpa using LayI.val hI 2 (.agg #[.string x1, .string x2]) (fun _ => rfl) (by simp)
    obtain ⟨u, s9, e9, q0, q1, q2, q3⟩ := LayI.last hI rfl
    exact .inl ⟨.slice (some ⟨W.heap.size, 0, none⟩) 1 1, W.alloc (.cells #[.string x1, .string x2] 98), by simp [execOp, g12, go_sem], LayI.slice (x := u) rfl (by simp) q0 q1 q2 q3⟩
  · intro h a W hI hlo hhi hpos hvw hvr hst
    obtain ⟨y0, y1, y2, y3, rfl⟩ := lst4 (hpos 4 rfl)
    have g3 := ev_get (show a.eval (.tmp 3) = Value.slice o k c from hvr 1 3 _ (by decide +kernel) rfl rfl)
    have g13 := ev_get (hvw 3 11 13 y3 rfl rfl rfl)
    obtain ⟨y, g, cap, w3, q0, hrun, hL⟩ := LayI.app (tl := 92) (fun _ => by simp) rfl Tryz.underlying92 hi hz0 hz1 hz2 rfl (by decide) hb hzw (by decide) (fun _ => rfl) (fun _ => by simp [Value.oneCell']) (by omega) (by omega) hI rfl
    obtain rfl : y3 = y := by simpa using q0
    exact .inl ⟨_, w3, by simp [execOp, g3, g13, go_sem, hrun], hL⟩
  · intro h a W hI hlo hhi hpos hvw hvr hst
    have g0 := ev_get (show a.eval (.tmp 0) = Value.pointer (some ⟨z, 0, none⟩) from hst 0 (by decide +kernel))
    show (execOp a.eval _).run _ W = .ok (.value (Value.pointer (some ⟨z, 6, none⟩))) W
    simp [execOp, g0, go_sem]
  · intro h a W hI hlo hhi hpos hvw hvr hst
    obtain ⟨y0, y1, y2, y3, y4, rfl⟩ := lst5 (hpos 5 rfl)
    have g14 := ev_get (hvw 4 12 14 y4 rfl rfl rfl)
    have g15 := ev_get (show a.eval (.tmp 15) = Value.pointer (some ⟨z, 6, none⟩) from hvr 13 15 _ (by decide +kernel) rfl rfl)
    obtain ⟨g, cap, q0, hz, hL⟩ := LayI.store (fun _ => by simp) hI rfl
    obtain rfl : y4 = _ := by simpa using q0
    have cq := cell_of_at hz (i := 6) rfl
    have f := frozen_of_at hz 6
    exact .inr (.inl ⟨_, rfl, by simp [execOp, g14, g15, go_sem, cq, f], hL⟩)
  intro h a W hh hl
  obtain ⟨x9, W2, g, cap, hE, hP2, hfr, hPf⟩ := LayI.fin hh.inv hl rfl (by decide) (by decide)
  
  refine bodyPost_end (results_none rfl _ _ _) hh.defers ?_
  refine ⟨rfl, g, cap, (x1, x2), ⟨hPf.mv, hPf.pt, hPf.bx, by rw [flat_snoc]; exact hPf.own, hP.fr.trans hPf.fr⟩, fun _ => rfl, trivial, hPf.fr⟩
end Go.Proofs.YtmomlgkpdoapoaaGreatDoor.K
namespace Go.Proofs.YtmomlgkpdoapoaaGreatDoor.K
open Go.ChangeShapes Go.WideShapes Go.ChangeAt Go.RowKit

section
variable {P : Program} {Q : Exit → Act → World → Prop}
/-- Those that turn memory, each behind the one ahead; one apart that waits for none; the others have a value that is known. -/
def chainFB (ops : Array Oper) (cs : List Nat) (ms : List Bool) (fo : Nat) : Bool :=
  (List.range cs.length).all (fun p => (List.range p).all fun q => waits ops 12 (cs.getD p 0) (cs.getD q 0)) && (List.range cs.length).all (fun p => !ms.getD (cs.getD p 0) false && decide (cs.getD p 0 < ops.size) && !(cs.getD p 0 == fo)) && (List.range ops.size).all fun i => cs.contains i || ms.getD i false || i == fo
/-- What operation i does, whenever it comes up. -/
def CStepF (P : Program) (ops : Array Oper) (cs : List Nat) (vs : List (Option Value)) (fo : Nat) (Inv : List Value → Option Value → World → Prop) (A0 : Act) (i : Nat) (o : Oper) : Prop :=
  ∀ (h : List Value) (u : Option Value) (a : Act) (w : World), Inv h u w → (waits ops 12 i fo = true → ∃ v, u = some v) → (i = fo → u = none) → (∀ (v : Value) (d : Nat), u = some v → dstOf ops fo = some d → a.eval (.tmp d) = v) → (∀ (p j : Nat), cs[p]? = some j → waits ops 12 i j = true → p < h.length) → (∀ (p j : Nat), cs[p]? = some j → waits ops 12 j i = true → h.length ≤ p) → (∀ (p : Nat), cs[p]? = some i → h.length = p) →
    (∀ (p j d : Nat) (v : Value), cs[p]? = some j → h[p]? = some v → dstOf ops j = some d → a.eval (.tmp d) = v) → (∀ (j d : Nat) (x : Value), waits ops 12 i j = true → vs[j]? = some (some x) → dstOf ops j = some d → a.eval (.tmp d) = x) → (∀ (t : Nat), stillB ops i t = true → a.eval (.tmp t) = A0.eval (.tmp t)) →
    match decide (i = fo), vs[i]? with
    | true, _ => ∃ v w', (execOp a.eval o).run P w = .ok (.value v) w' ∧ Inv h (some v) w'
    | false, some (some x) => (execOp a.eval o).run P w = .ok (.value x) w
    | false, _ => (∃ v w', (execOp a.eval o).run P w = .ok (.value v) w' ∧ Inv (h ++ [v]) u w') ∨ (∃ w', o.dst = none ∧ (execOp a.eval o).run P w = .ok .skip w' ∧ Inv (h ++ [undef]) u w') ∨
        (∃ f args, (execOp a.eval o).run P w = .ok (.enter f args) w ∧ Calls P f args w fun e w' => ∃ v, e = .returned v ∧ Inv (h ++ [v]) u w')
/-- What holds while they come up. -/
structure ChnF (ops : Array Oper) (cs : List Nat) (vs : List (Option Value)) (fo : Nat) (Inv : List Value → Option Value → World → Prop) (A0 : Act) (done : Array Bool) (h : List Value) (u : Option Value) (a : Act) (w : World) : Prop where
  size : a.tmps.size = A0.tmps.size
  defers : a.defers = A0.defers
  inv : Inv h u w
  fd : done.getD fo false = true ↔ u.isSome = true
  vf : ∀ (v : Value) (d : Nat), u = some v → dstOf ops fo = some d → a.eval (.tmp d) = v
  closed : FClosed ops done
  dsz : done.size = ops.size
  wr : ∀ (p j : Nat), cs[p]? = some j → (done.getD j false = true ↔ p < h.length)
  hle : h.length ≤ cs.length
  vw : ∀ (p j d : Nat) (v : Value), cs[p]? = some j → h[p]? = some v → dstOf ops j = some d → a.eval (.tmp d) = v
  vr : ∀ (j d : Nat) (x : Value), vs[j]? = some (some x) → done.getD j false = true → dstOf ops j = some d → a.eval (.tmp d) = x
  same : ∀ (t : Nat), (∀ j, done.getD j false = true → dstOf ops j ≠ some t) → a.eval (.tmp t) = A0.eval (.tmp t)
theorem chainF_any {ops : Array Oper} {cs : List Nat} {vs : List (Option Value)} {fo : Nat} {Inv : List Value → Option Value → World → Prop} {A0 : Act} (hb : regB ops A0.tmps.size = true) (hcb : chainFB ops cs (vs.map Option.isSome) fo = true) (hfl : vs.getD fo none = none)
    (hs : ∀ i o, ops[i]? = some o → CStepF P ops cs vs fo Inv A0 i o)
    (hQ : ∀ h u a w, ChnF ops cs vs fo Inv A0 (Array.replicate ops.size true) h u a w → Q .normal a w) :
    ∀ (f : Nat) (done : Array Bool) (h : List Value) (u : Option Value) (a : Act) (w : World), ChnF ops cs vs fo Inv A0 done h u a w → (List.range ops.size).countP (fun j => !done.getD j true) ≤ f → wpAny P .any ops Q f done a w := by
  have hend : ∀ (done : Array Bool) (h : List Value) (u : Option Value) (a : Act) (w : World), ChnF ops cs vs fo Inv A0 done h u a w → (∀ i, i < ops.size → done.getD i false = true) → Q .normal a w := fun done h u a w hh hall => by
    refine hQ h u a w ?_
    have e : done = Array.replicate ops.size true := by
      apply Array.ext (by rw [hh.dsz]; simp)
      intro i h1 h2
      have := hall i (by rw [← hh.dsz]; exact h1)
      simpa [h1] using this
    rw [← e]; exact hh
  intro f
  induction f with
  | zero =>
    intro done h u a w hh hf
    have hall : ∀ i, i < ops.size → done.getD i false = true := fun i hi => by
      have h0 : (List.range ops.size).countP (fun j => !done.getD j true) = 0 := by omega
      have := List.countP_eq_zero.1 h0 i (List.mem_range.2 hi)
      have h2 : i < done.size := by rw [hh.dsz]; exact hi
      simp [h2] at this ⊢; exact this
    refine ⟨?_, hend done h u a w hh hall⟩
    refine List.eq_nil_iff_forall_not_mem.2 (fun i hi => ?_)
    obtain ⟨h0, o, ho, _⟩ := mem_ready.1 hi
    have hlt : i < ops.size := (Array.getElem?_eq_some_iff.1 ho).1
    have h1 := hall i hlt
    have h2 : i < done.size := by rw [hh.dsz]; exact hlt
    simp [h2] at h0 h1
    rw [h0] at h1; cases h1
  | succ f ih =>
    intro done h u a w hh hf
    refine ⟨fun e => hend done h u a w hh (all_of_ready' hb hh.dsz e), fun i hi => ?_⟩
    obtain ⟨h0, o, ho, hall⟩ := mem_ready.1 hi
    have hlt : i < ops.size := (Array.getElem?_eq_some_iff.1 ho).1
    have hld : i < done.size := by rw [hh.dsz]; exact hlt
    obtain ⟨hg, hdn, hlow, hne⟩ := reg_oper hb ho
    have h00 : done.getD i false = false := by simp [hld] at h0 ⊢; exact h0
    have hset : ∀ j, (done.setIfInBounds i true).getD j false = true → j = i ∨ done.getD j false = true := fun j hj => by
      by_cases e : i = j
      · exact .inl e.symm
      · rw [getD_set_ne false e] at hj; exact .inr hj
    have hcnt : (List.range ops.size).countP (fun j => !(done.setIfInBounds i true).getD j true) ≤ f := by
      have := countP_less (p := fun j => !done.getD j true) (q := fun j => !(done.setIfInBounds i true).getD j true) (List.range ops.size) (fun x _ hx => by
          by_cases e : i = x
          · subst e; simp [hld] at hx
          · rw [getD_set_ne true e] at hx; exact hx) i (List.mem_range.2 hlt) (by simp [h0]) (by simp [hld])
      omega
    have hclosed : FClosed ops (done.setIfInBounds i true) := by
      intro k p hk hkd e he hbe
      rcases hset k hkd with rfl | h2
      · rw [ho] at hk; cases hk; exact getD_set_true (hall e he hbe)
      · exact getD_set_true (hh.closed k p hk h2 e he hbe)
    have hi_set : (done.setIfInBounds i true).getD i false = true := by simp [hld]
    have hcb1 := hcb
    unfold chainFB at hcb1
    simp only [Bool.and_eq_true] at hcb1
    obtain ⟨⟨hch, hcv⟩, hcr⟩ := hcb1
    -- the frame behind a put
    have hput : ∀ (v : Value) (t : Nat), (∀ d, o.dst = some d → d ≠ t) → (a.put o.dst v).eval (.tmp t) = a.eval (.tmp t) := fun v t ht => by
      cases hd : o.dst with
      | none => rfl
      | some d => exact ev_ne (ht d hd)
    have hsameP : ∀ (v : Value) t, (∀ j, (done.setIfInBounds i true).getD j false = true → dstOf ops j ≠ some t) → (a.put o.dst v).eval (.tmp t) = A0.eval (.tmp t) := fun v t ht => by
      rw [hput v t (fun d hd e => ht i hi_set (by simp [dstOf, ho, hd, e]))]
      exact hh.same t (fun j hj => ht j (getD_set_true hj))
    have hoff : ∀ (v : Value) (j d : Nat), j ≠ i → j < ops.size → dstOf ops j = some d → (a.put o.dst v).eval (.tmp d) = a.eval (.tmp d) := fun v j d hj hjs he => hput v d (fun e hd e2 => by
      subst e2
      exact hne j e hjs (Ne.symm hj) (by simp [dstOf, ho, hd]) he)
    have hinb : ∀ (p j : Nat), cs[p]? = some j → ∀ d, dstOf ops j = some d → j < ops.size := fun p j _ d he => by
      rcases Nat.lt_or_ge j ops.size with h1 | h1
      · exact h1
      · simp [dstOf, Array.getElem?_eq_none h1] at he
    have hs' := hs i o ho h u a w hh.inv
      (fun hw => Option.isSome_iff_exists.1 (hh.fd.1 (waits_spec hh.closed 12 i o hw ho hall)))
      (fun e => by
        subst e
        cases hu : u with
        | none => rfl
        | some v =>
          exfalso
          have := hh.fd.2 (by rw [hu]; rfl)
          rw [h00] at this; cases this)
      hh.vf
      (fun p j hp hw => (hh.wr p j hp).1 (waits_spec hh.closed 12 i o hw ho hall))
      (fun p j hp hw => by
        rcases Nat.lt_or_ge p h.length with hlp | hlp
        · exfalso
          have hjd := (hh.wr p j hp).2 hlp
          have hjs : j < ops.size := by rw [← hh.dsz]; exact getD_lt hjd
          have hjo : ops[j]? = some ops[j] := Array.getElem?_eq_getElem hjs
          have := waits_spec hh.closed 12 j ops[j] hw hjo (hh.closed j _ hjo hjd)
          rw [h00] at this; cases this
        · exact hlp)
      (fun p hp => by
        have h1 : ¬ p < h.length := fun hlp => by
          have := (hh.wr p i hp).2 hlp
          rw [h00] at this; cases this
        rcases Nat.lt_or_ge h.length p with h2 | h2
        · exfalso
          have hpl : p < cs.length := (List.getElem?_eq_some_iff.1 hp).1
          have hq : cs[h.length]? = some cs[h.length] := List.getElem?_eq_getElem (by omega)
          have hw := List.all_eq_true.1 (List.all_eq_true.1 hch p (List.mem_range.2 hpl)) h.length (List.mem_range.2 h2)
          rw [List.getD_eq_getElem?_getD, List.getD_eq_getElem?_getD, hp, hq] at hw
          simp only [Option.getD_some] at hw
          have := (hh.wr _ _ hq).1 (waits_spec hh.closed 12 i o hw ho hall)
          omega
        · omega)
      hh.vw
      (fun j d x hw hx he => hh.vr j d x hx (waits_spec hh.closed 12 i o hw ho hall) he)
      (fun t ht => hh.same t (fun j hj he => by
        have hjs : j < ops.size := by rw [← hh.dsz]; exact getD_lt hj
        have := List.all_eq_true.1 ht j (List.mem_range.2 hjs)
        simp only [he, beq_self_eq_true, Bool.not_true, Bool.false_or, Bool.or_eq_true, beq_iff_eq] at this
        rcases this with e | e
        · subst e; rw [h00] at hj; cases hj
        · have hjo : ops[j]? = some ops[j] := Array.getElem?_eq_getElem hjs
          have := waits_spec hh.closed 12 j ops[j] e hjo (hh.closed j _ hjo hj)
          rw [h00] at this; cases this))
    have hvfo : ∀ (v : Value), i ≠ fo → ∀ (v2 : Value) (d : Nat), u = some v2 → dstOf ops fo = some d → (a.put o.dst v).eval (.tmp d) = v2 := fun v hif v2 d hv2 he => by
      have hfs : fo < ops.size := by
        have := hh.fd.2 (by rw [hv2]; rfl)
        rw [← hh.dsz]; exact getD_lt this
      rw [hoff v fo d (Ne.symm hif) hfs he]
      exact hh.vf v2 d hv2 he
    -- the free one
    have keyF : i = fo → ∀ (v : Value) (w' : World), Inv h (some v) w' → wpAny P .any ops Q f (done.setIfInBounds i true) (a.put o.dst v) w' := fun hif v w' hv => by
      have hni : ∀ (p : Nat), cs[p]? ≠ some i := fun p hp => by
        have hpl : p < cs.length := (List.getElem?_eq_some_iff.1 hp).1
        have := List.all_eq_true.1 hcv p (List.mem_range.2 hpl)
        have e0 : cs.getD p 0 = i := by rw [List.getD_eq_getElem?_getD, hp]; rfl
        rw [e0, hif] at this
        simp at this
      refine ih _ h (some v) _ _ ⟨by rw [put_size]; exact hh.size, by rw [put_defers]; exact hh.defers, hv, by rw [← hif]; simp [hld], fun v2 d hv2 he => ?_, hclosed, by rw [Array.size_setIfInBounds]; exact hh.dsz, fun p j hp => ?_, hh.hle, fun p j d v2 hp hv2 he => ?_, fun j d y hy hj he => ?_, hsameP v⟩ hcnt
      · cases hv2
        have hd : o.dst = some d := by rw [← hif] at he; simpa [dstOf, ho] using he
        rw [hd, ev_same (by rw [hh.size]; exact hdn d hd)]
      · have hji : i ≠ j := fun e => hni p (by rw [e]; exact hp)
        rw [getD_set_ne false hji]
        exact hh.wr p j hp
      · have hji : j ≠ i := fun e => hni p (by rw [← e]; exact hp)
        rw [hoff v j d hji (hinb p j hp d he) he]
        exact hh.vw p j d v2 hp hv2 he
      · by_cases e : j = i
        · exfalso
          rw [e, hif] at hy
          rw [List.getD_eq_getElem?_getD, hy] at hfl
          simp at hfl
        · rw [getD_set_ne false (Ne.symm e)] at hj
          rw [hoff v j d e (by rw [← hh.dsz]; exact getD_lt hj) he]
          exact hh.vr j d y hy hj he
    -- a reader
    have keyR : ∀ x, vs[i]? = some (some x) → i ≠ fo → wpAny P .any ops Q f (done.setIfInBounds i true) (a.put o.dst x) w := fun x hx hif => by
      have hni : ∀ (p : Nat), cs[p]? ≠ some i := fun p hp => by
        have hpl : p < cs.length := (List.getElem?_eq_some_iff.1 hp).1
        have := List.all_eq_true.1 hcv p (List.mem_range.2 hpl)
        have e0 : cs.getD p 0 = i := by rw [List.getD_eq_getElem?_getD, hp]; rfl
        rw [e0, List.getD_eq_getElem?_getD, List.getElem?_map, hx] at this
        simp at this
      refine ih _ h u _ _ ⟨by rw [put_size]; exact hh.size, by rw [put_defers]; exact hh.defers, hh.inv, by rw [getD_set_ne false hif]; exact hh.fd, fun v d hv he => (hvfo x hif v d hv he), hclosed, by rw [Array.size_setIfInBounds]; exact hh.dsz, fun p j hp => ?_, hh.hle, fun p j d v hp hv he => ?_, fun j d y hy hj he => ?_, hsameP x⟩ hcnt
      · have hji : i ≠ j := fun e => hni p (by rw [e]; exact hp)
        rw [getD_set_ne false hji]
        exact hh.wr p j hp
      · have hji : j ≠ i := fun e => hni p (by rw [← e]; exact hp)
        rw [hoff x j d hji (hinb p j hp d he) he]
        exact hh.vw p j d v hp hv he
      · by_cases e : j = i
        · subst e
          rw [hx] at hy
          cases hy
          have hd : o.dst = some d := by simpa [dstOf, ho] using he
          rw [hd, ev_same (by rw [hh.size]; exact hdn d hd)]
        · rw [getD_set_ne false (Ne.symm e)] at hj
          rw [hoff x j d e (by rw [← hh.dsz]; exact getD_lt hj) he]
          exact hh.vr j d y hy hj he
    -- a writer
    have keyW : ∀ (v : Value) (w' : World), (∀ x, vs[i]? ≠ some (some x)) → i ≠ fo → Inv (h ++ [v]) u w' → wpAny P .any ops Q f (done.setIfInBounds i true) (a.put o.dst v) w' := fun v w' hx hif hv => by
      have hin : ∃ p : Nat, cs[p]? = some i := by
        have := List.all_eq_true.1 hcr i (List.mem_range.2 hlt)
        rw [Bool.or_eq_true, Bool.or_eq_true] at this
        rcases this with (e | e) | e
        · have := List.contains_iff_mem.1 e
          obtain ⟨p, hp, he⟩ := List.getElem_of_mem this
          exact ⟨p, by rw [← he]; exact List.getElem?_eq_getElem hp⟩
        · exfalso
          cases hv2 : vs[i]? with
          | none => rw [List.getD_eq_getElem?_getD, List.getElem?_map, hv2] at e; simp at e
          | some y =>
            cases y with
            | none => rw [List.getD_eq_getElem?_getD, List.getElem?_map, hv2] at e; simp at e
            | some x => exact hx x hv2
        · exact absurd (by simpa using e) hif
      obtain ⟨p0, hp0⟩ := hin
      have hw0 := (hh.wr p0 i hp0)
      have hp1 : ¬ p0 < h.length := fun hlp => by have := hw0.2 hlp; rw [h00] at this; cases this
      have hpe : h.length = p0 := by
        rcases Nat.lt_or_ge h.length p0 with h2 | h2
        · exfalso
          have hpl : p0 < cs.length := (List.getElem?_eq_some_iff.1 hp0).1
          have hq : cs[h.length]? = some cs[h.length] := List.getElem?_eq_getElem (by omega)
          have hw := List.all_eq_true.1 (List.all_eq_true.1 hch p0 (List.mem_range.2 hpl)) h.length (List.mem_range.2 h2)
          rw [List.getD_eq_getElem?_getD, List.getD_eq_getElem?_getD, hp0, hq] at hw
          simp only [Option.getD_some] at hw
          have := (hh.wr _ _ hq).1 (waits_spec hh.closed 12 i o hw ho hall)
          omega
        · omega
      have hle2 : p0 < cs.length := (List.getElem?_eq_some_iff.1 hp0).1
      refine ih _ (h ++ [v]) u _ _ ⟨by rw [put_size]; exact hh.size, by rw [put_defers]; exact hh.defers, hv, by rw [getD_set_ne false hif]; exact hh.fd, fun v2 d hv2 he => (hvfo v hif v2 d hv2 he), hclosed, by rw [Array.size_setIfInBounds]; exact hh.dsz, fun p j hp => ?_, by rw [List.length_append]; simp; omega, fun p j d u hp hu he => ?_, fun j d y hy hj he => ?_, hsameP v⟩ hcnt
      · rw [List.length_append, List.length_singleton]
        by_cases e : i = j
        · subst e
          refine ⟨fun _ => ?_, fun _ => hi_set⟩
          rcases Nat.lt_or_ge h.length p with h3 | h3
          · exfalso
            have hpl : p < cs.length := (List.getElem?_eq_some_iff.1 hp).1
            have hw := List.all_eq_true.1 (List.all_eq_true.1 hch p (List.mem_range.2 hpl)) p0 (List.mem_range.2 (by omega))
            rw [List.getD_eq_getElem?_getD, List.getD_eq_getElem?_getD, hp, hp0] at hw
            simp only [Option.getD_some] at hw
            have := waits_spec hh.closed 12 i o hw ho hall
            rw [h00] at this; cases this
          · omega
        · rw [getD_set_ne false e, hh.wr p j hp]
          refine ⟨fun h3 => by omega, fun h3 => ?_⟩
          rcases Nat.lt_or_ge p h.length with h4 | h4
          · exact h4
          · exfalso
            have : p = p0 := by omega
            subst this
            rw [hp0] at hp
            cases hp
            exact e rfl
      · by_cases e : j = i
        · subst e
          have hd : o.dst = some d := by simpa [dstOf, ho] using he
          have hpp : p = p0 := by
            have hplu : p < (h ++ [v]).length := (List.getElem?_eq_some_iff.1 hu).1
            rw [List.length_append, List.length_singleton] at hplu
            rcases Nat.lt_or_ge p h.length with h4 | h4
            · have := (hh.wr p j hp).2 h4
              rw [h00] at this; cases this
            · omega
          subst hpp
          rw [List.getElem?_append_right (by omega), hpe, Nat.sub_self] at hu
          simp at hu
          subst hu
          rw [hd, ev_same (by rw [hh.size]; exact hdn d hd)]
        · rw [hoff v j d e (hinb p j hp d he) he]
          refine hh.vw p j d u hp ?_ he
          rcases Nat.lt_or_ge p h.length with h4 | h4
          · rw [List.getElem?_append_left h4] at hu
            exact hu
          · exfalso
            have hplu : p < (h ++ [v]).length := (List.getElem?_eq_some_iff.1 hu).1
            rw [List.length_append, List.length_singleton] at hplu
            have : p = p0 := by omega
            subst this
            rw [hp0] at hp
            cases hp
            exact e rfl
      · have hji : j ≠ i := fun e => by subst e; exact hx y hy
        rw [getD_set_ne false (Ne.symm hji)] at hj
        rw [hoff v j d hji (by rw [← hh.dsz]; exact getD_lt hj) he]
        exact hh.vr j d y hy hj he
    unfold CStepF at hs
    by_cases hif : i = fo
    · rw [decide_eq_true hif] at hs'
      obtain ⟨v, w', hr, hI⟩ := hs'
      exact wpOp_run ho hg hr (keyF hif v w' hI)
    rw [decide_eq_false hif] at hs'
    cases hv : vs[i]? with
    | none =>
      rw [hv] at hs'
      have hx : ∀ x, vs[i]? ≠ some (some x) := fun x e => by rw [hv] at e; cases e
      rcases hs' with ⟨v, w', hr, hI⟩ | ⟨w', hd, hr, hI⟩ | ⟨fn, args, hr, hc⟩
      · exact wpOp_run ho hg hr (keyW v w' hx hif hI)
      · refine wpOp_skip ho hg hd hr ?_
        have := keyW undef w' hx hif hI
        rw [hd] at this
        exact this
      · exact wpOp_call2 ho hg hr hc (fun e w' ⟨v, he, hI⟩ => ⟨v, he, keyW v w' hx hif hI⟩)
    | some y =>
      cases y with
      | none =>
        rw [hv] at hs'
        have hx : ∀ x, vs[i]? ≠ some (some x) := fun x e => by rw [hv] at e; cases e
        rcases hs' with ⟨v, w', hr, hI⟩ | ⟨w', hd, hr, hI⟩ | ⟨fn, args, hr, hc⟩
        · exact wpOp_run ho hg hr (keyW v w' hx hif hI)
        · refine wpOp_skip ho hg hd hr ?_
          have := keyW undef w' hx hif hI
          rw [hd] at this
          exact this
        · exact wpOp_call2 ho hg hr hc (fun e w' ⟨v, he, hI⟩ => ⟨v, he, keyW v w' hx hif hI⟩)
      | some x =>
        rw [hv] at hs'
        exact wpOp_run ho hg hs' (keyR x hv hif)
theorem ChnF.keep {ops : Array Oper} {cs : List Nat} {vs : List (Option Value)} {fo : Nat} {Inv : List Value → Option Value → World → Prop} {A0 a : Act} {done : Array Bool} {h : List Value} {u : Option Value} {w : World} (hh : ChnF ops cs vs fo Inv A0 done h u a w) (t : Nat) (hb : ((List.range ops.size).all fun j => !(dstOf ops j == some t)) = true) : a.eval (.tmp t) = A0.eval (.tmp t) :=
  hh.same t (fun j hj he => by
    have hjs : j < ops.size := by rw [← hh.dsz]; exact getD_lt hj
    have := List.all_eq_true.1 hb j (List.mem_range.2 hjs)
    rw [he] at this
    simp at this)
/-- THE REGION: those that turn memory in their one order, by what holds between them ('Inv', of their values so far); the others' values known ahead. -/
theorem chainF_region {id : Nat} {ops : Array Oper} {A0 : Act} {w : World} (cs : List Nat) (vs : List (Option Value)) (fo : Nat) (Inv : List Value → Option Value → World → Prop) (hm : P.follows .mixedOrders = true)
    {n : Nat} (hn : A0.tmps.size = n) (hb : regB ops n = true) {ms : List Bool} (hms : vs.map Option.isSome = ms) (hc : chainFB ops cs ms fo = true) (h0 : Inv [] none w.drew) (hfl : vs.getD fo none = none)
    (hs : AllFrom (CStepF P ops cs vs fo Inv A0) 0 ops.toList)
    (hQ : ∀ h u a w', ChnF ops cs vs fo Inv A0 (Array.replicate ops.size true) h u a w' → h.length = cs.length → Q .normal a w') : (Code.region id ops true).wp P Q A0 w := by
  subst hn hms
  refine wp_region_any hm (chainF_any hb hc hfl (fun i o ho => ?_) (fun h u a w' hh => hQ h u a w' hh ?_) _ _ [] none _ _ ⟨rfl, rfl, h0, ?_, (fun v d hv _ => nomatch hv), fun k o _ hk => ?_, by simp, fun p j hp => ?_, Nat.zero_le _, fun p j d v _ hv => ?_, fun j d x _ hj => ?_, fun t _ => rfl⟩ ?_)
  · have := allFrom_spec ops.toList 0 hs i o (by simpa using ho)
    rwa [Nat.zero_add] at this
  · rcases Nat.lt_or_ge h.length cs.length with h1 | h1
    · exfalso
      have hq : cs[h.length]? = some cs[h.length] := List.getElem?_eq_getElem h1
      have hw := hh.wr _ _ hq
      have hlt : cs[h.length] < ops.size := by
        rcases Nat.lt_or_ge cs[h.length] ops.size with h2 | h2
        · exact h2
        · exfalso
          have h3 := hc
          unfold chainFB at h3
          simp only [Bool.and_eq_true] at h3
          have := List.all_eq_true.1 h3.1.2 h.length (List.mem_range.2 h1)
          have e0 : cs.getD h.length 0 = cs[h.length] := by rw [List.getD_eq_getElem?_getD, hq]; rfl
          rw [e0] at this
          simp at this
          omega
      have := hw.1 (by simp [hlt])
      omega
    · have := hh.hle; omega
  · refine ⟨fun hk => ?_, fun hk => by cases hk⟩
    exfalso
    have h1 := getD_lt hk
    simp at h1
    simp [h1] at hk
  · exfalso
    have h1 := getD_lt hk
    simp at h1
    simp [h1] at hk
  · constructor
    · intro hk
      exfalso
      have h1 := getD_lt hk
      simp at h1
      simp [h1] at hk
    · intro hk; simp at hk
  · simp at hv
  · exfalso
    have h1 := getD_lt hj
    simp at h1
    simp [h1] at hj
  · have := List.countP_le_length (p := fun j => !(Array.replicate ops.size false).getD j true) (l := List.range ops.size)
    simpa using this
end
end Go.Proofs.YtmomlgkpdoapoaaGreatDoor.K
