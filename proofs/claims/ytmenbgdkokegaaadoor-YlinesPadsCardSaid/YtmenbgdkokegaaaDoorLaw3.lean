/-
  The statement YlinesCut, walked.
-/
import Derived.Test.YtmenbgdkokegaaaDoorWalk
namespace Go.Proofs.YtmenbgdkokegaaaDoor
open Go.ChangeShapes Go.WideShapes Go.ChangeAt Go.RowKit
attribute [local go_sem ↓] Go.wp_at_zero Go.wp_at_succ
variable {w : World}

theorem cutA_len (M : Nat) : ∀ (ls : List (List UInt8)) (n : Nat) (acc : List Rw), (∀ l ∈ ls, l.length ≤ M) → (cutA V n ls acc).1.length ≤ acc.length + ls.length * M
  | [], n, acc, _ => by simp [cutA]
  | l :: ls, n, acc, h => by
    by_cases hb : badL V l = true
    · rw [cutA_bad V hb]; simp
    · cases hr : rem l with
      | none => rw [cutA_end V (by simpa using hb) hr]; simp
      | some k =>
        rw [cutA_step V (by simpa using hb) hr]
        have ih := cutA_len M ls (n + 1) (acc ++ rowsS n 0 (Lib.trimRightB (l.take k) 32)) (fun x hx => h x (by simp [hx]))
        have h1 := rowsS_len n (Lib.trimRightB (l.take k) 32) 0
        have h2 := trimR_len (l.take k)
        have h3 : (l.take k).length ≤ l.length := by simp; omega
        have h4 := h l (by simp)
        have h5 : (ls.length + 1) * M = ls.length * M + M := by rw [Nat.add_mul, Nat.one_mul]
        rw [List.length_append] at ih
        rw [List.length_cons, h5]
        omega
theorem cutL_len (l : List UInt8) (h : l.length ≤ 100000) : (cutL V l).1.length ≤ 10000100000 := by
  have h1 := cutA_len 100000 (lnsA [] l) 0 [] (fun x hx => by have := lnsA_mem l [] x hx; simp at this; omega)
  have h2 := lnsA_len [] l
  unfold cutL
  simp at h1
  omega
/-- A row's cells. -/
structure Cell4 (w : World) (g k : Nat) (t : Rw) : Prop where
  c0 : w.cell? ⟨g, k * 4, none⟩ = some (.int .i64 (t.line : Int))
  c1 : w.cell? ⟨g, k * 4 + 1, none⟩ = some (.int .i64 (t.indent : Int))
  c2 : w.cell? ⟨g, k * 4 + 2, none⟩ = some (.bool t.dash)
  c3 : w.cell? ⟨g, k * 4 + 3, none⟩ = some (.string (tx t.text))
theorem RBuf.cell4 {ty : Nat} {w : World} {B g n cap : Nat} {l : List Rw} (h : RBuf ty w B (.slice (some ⟨g, 0, none⟩) n cap) l) (k : Nat) (hk : k < l.length) : Cell4 w g k l[k] := by
  have e : 4 * k = k * 4 := Nat.mul_comm _ _
  have h0 := h.cell k hk 0 (by decide) rfl
  have h1 := h.cell k hk 1 (by decide) rfl
  have h2 := h.cell k hk 2 (by decide) rfl
  have h3 := h.cell k hk 3 (by decide) rfl
  rw [e] at h0 h1 h2 h3
  exact ⟨h0, h1, h2, h3⟩
theorem RBuf.addr {ty : Nat} {w : World} {B n c : Nat} {o : Option Addr} {l : List Rw} (h : RBuf ty w B (.slice o n c) l) (hl : 0 < l.length) : ∃ g, o = some ⟨g, 0, none⟩ := by
  rcases h.2 with ⟨h1, h2⟩ | ⟨g, cap, c2, h1, _⟩
  · omega
  · injection h1 with h1
    exact ⟨g, h1⟩
set_option maxRecDepth 100000 in
set_option maxHeartbeats 2000000 in
theorem ylinesCut_main (s : ByteArray) (w : World) (hT : Tabs w) : Calls Tryd.prog 3 #[.string s] w fun e w' => e = .returned (.bool true) ∧ Fresh w w' := by
  have HT := Lib.hid hT
  have HA : Hid (∀ W, Tabs W → Calls Tryd.prog 5 #[] W fun e w' => e = .returned (.bool true) ∧ Fresh W w') := fun W h1 => lawake_any W h1
  clear hT
  by_cases hs : 3000 < s.size
  · have hs' : (3000 : Int) < (s.size : Int) := by omega
    go_enter Tryd.func3, Tryd.ntmps3
    go_wp2_with fail
    refine (HA.out _ HT.out).mono ?_
    rintro e w1 ⟨rfl, hf1⟩
    have HF1 := Lib.hid hf1
    clear hf1
    go_wp2
    go_ret
    exact ⟨rfl, HF1.out⟩
  · have hs' : ¬ (3000 : Int) < (s.size : Int) := by omega
    have hC := cutM_any s.data.toList w (by simp; omega) HT.out
    rw [tx_of] at hC
    have HC := Lib.hid hC
    have HR := Lib.hid (fun W => refcut_any s W (by omega))
    have hRL := cutL_len s.data.toList (by simp; omega)
    clear hC
    obtain ⟨R, hR⟩ : ∃ R, R = cutL V s.data.toList := ⟨_, rfl⟩
    rw [← hR] at HC HR hRL
    clear hR
    obtain ⟨rows, ln, code⟩ := R
    dsimp only at hRL
    go_enter Tryd.func3, Tryd.ntmps3
    go_wp2_with fail
    refine HC.out.mono ?_
    rintro e w1 ⟨v, rfl, hb, hf1⟩
    obtain ⟨o, c, rfl⟩ := row_shape hb
    have HF1 := Lib.hid hf1
    have HB := Lib.hid hb
    clear hf1 hb
    go_wp2_with fail
    refine (HR.out _).mono ?_
    rintro e w2 ⟨v, B, rfl, hB, hb, hf2⟩
    obtain ⟨o2, c2, rfl⟩ := row_shape hb
    have HF2 := Lib.hid (HF1.out.trans hf2)
    have HB1 := Lib.hid (HB.out.fresh hf2)
    have HB2 := Lib.hid hb
    clear hf2 hb hB HB
    dsimp only at HB1 HB2
    go_wp2
    go_loopw [43] (fun a43 wr => ∃ k : Nat, k ≤ rows.length ∧ a43 = .int .i64 (k : Int) ∧ Hid (Fresh w2 wr)) (fun a43 _ => rows.length - (intOf a43).toNat)
    case atStart => exact ⟨0, Nat.zero_le _, by simp, Fresh.refl _⟩
    case round =>
      obtain ⟨k, hk, rfl, HF⟩ := hrel
      by_cases hlt : k < rows.length
      · obtain ⟨g, rfl⟩ := HB1.out.addr (by show 0 < rows.length; omega)
        obtain ⟨g2, rfl⟩ := HB2.out.addr (by show 0 < rows.length; omega)
        obtain ⟨c0, c1, c2, c3⟩ := (HB1.out.fresh HF.out).cell4 k hlt
        obtain ⟨d0, d1, d2, d3⟩ := (HB2.out.fresh HF.out).cell4 k hlt
        generalize rows[k].line = r0 at *
        generalize rows[k].indent = r1 at *
        generalize rows[k].dash = r2 at *
        generalize tx rows[k].text = r3 at *
        go_wp2
        go_quiet (fail)
        go_wp2
        go_roundw
        case rel => exact ⟨k + 1, by omega, by simp, below_drewN HF.out nq⟩
        case measure => simp [intOf]; omega
      · have hge : ¬ (k : Int) < (rows.length : Int) := by omega
        go_wp2_with fail
        refine (HA.out _ (HT.out.move (HF2.out.trans HF.out))).mono ?_
        rintro e w3 ⟨rfl, hf3⟩
        have HF3 := Lib.hid ((HF2.out.trans HF.out).trans hf3)
        clear hf3
        go_wp2
        go_ret
        exact ⟨rfl, HF3.out⟩
end Go.Proofs.YtmenbgdkokegaaaDoor
