/-
  Pods that are small enough to be looked at.
-/
import Derived.Test.YtfhhmajkacjbgaaDoorSWeight
namespace Go.Proofs.YtfhhmajkacjbgaaDoor
open Go.ChangeShapes Go.WideShapes Go.ChangeAt Go.RowKit

set_option maxRecDepth 100000 in
theorem podSmall_any (p : PM) (w : World) (h : p.At w) (hl : p.Low) : Calls Tryd.prog 6 #[p.val] w fun e w' => e = .returned (.bool (decide (weight p.pd ≤ 20000))) ∧ Fresh w w' := by
  have HA := Lib.hid (fun W (f : Fresh w W) => weight_any p W (h.move f) hl)
  clear h hl
  generalize weight p.pd = n at *
  obtain ⟨name, ns, rs, gr, ho, a, cap, cs⟩ := p
  dsimp only [PM.val] at *
  have HF0 := Lib.hid ((Fresh.refl w).alloc (.cells #[.string name, .string ns, .int .i64 rs, .int .i64 gr, .bool ho, .slice a cs.length cap] 25))
  have HW := Lib.hid (HA.out _ HF0.out)
  go_enter Tryd.func6, Tryd.ntmps6
  go_wp2_with (fail)
  refine HW.out.mono ?_
  rintro e w1 ⟨rfl, hf⟩
  have HF := Lib.hid hf
  clear hf
  go_wp2
  go_ret
  exact ⟨ret_bool (by rw [Bool.eq_iff_iff]; simp only [decide_eq_true_eq]; omega), HF0.out.trans HF.out⟩
theorem mem_sum {α : Type} (f : α → Nat) {l : List α} {x : α} (h : x ∈ l) : f x ≤ (l.map f).sum := by
  induction l with
  | nil => cases h
  | cons y l ih =>
    rw [List.map_cons, List.sum_cons]
    rcases List.mem_cons.1 h with rfl | h
    · omega
    · have := ih h; omega
theorem len_sum {α : Type} (f : α → Nat) (b : Nat) (l : List α) (h : ∀ x, b ≤ f x) : l.length * b ≤ (l.map f).sum := by
  induction l with
  | nil => simp
  | cons y l ih =>
    rw [List.map_cons, List.sum_cons, List.length_cons, Nat.succ_mul]
    have := h y
    omega
/-- A container that is small. -/
structure Ct.Sml (c : Ct) : Prop where
  name : c.name.size ≤ 20000
  image : c.image.size ≤ 20000
  lc : c.cmd.length ≤ 2000
  lp : c.ports.length ≤ 2000
  le : c.env.length ≤ 2000
  cmd : ∀ s ∈ c.cmd, s.size ≤ 20000
  env : ∀ v ∈ c.env, v.1.size ≤ 20000 ∧ v.2.size ≤ 20000
theorem sml_of {c : Ct} (h : ctW c ≤ 20000) : c.Sml := by
  unfold ctW cmdW envW at h
  have h1 := len_sum (fun s : ByteArray => 10 + s.size) 10 c.cmd (fun s => by omega)
  have h2 := len_sum (fun v : ByteArray × ByteArray => 10 + v.1.size + v.2.size) 10 c.env (fun s => by omega)
  exact { name := by omega, image := by omega, lc := by omega, lp := by omega, le := by omega,
          cmd := fun s hs => by have := mem_sum (fun s : ByteArray => 10 + s.size) hs; omega,
          env := fun v hv => by have := mem_sum (fun v : ByteArray × ByteArray => 10 + v.1.size + v.2.size) hv; omega }
theorem weightA_le : ∀ (l : List Ct) (n : Nat), weightA n l ≤ 20000 → n + l.length * 20 ≤ 20000 ∧ ∀ c ∈ l, ctW c ≤ 20000
  | [], n, h => by
    rw [weightA] at h
    exact ⟨by simpa using h, fun c hc => by cases hc⟩
  | c :: r, n, h => by
    rw [weightA] at h
    by_cases hb : 20000 < n + ctW c
    · rw [if_pos hb] at h; omega
    · rw [if_neg hb] at h
      obtain ⟨h1, h2⟩ := weightA_le r _ h
      have h20 : 20 ≤ ctW c := by unfold ctW; omega
      refine ⟨by rw [List.length_cons, Nat.succ_mul]; omega, fun x hx => ?_⟩
      rcases List.mem_cons.1 hx with rfl | hx
      · omega
      · exact h2 x hx
/-- A pod that is small. -/
structure Pd.Sml (p : Pd) : Prop where
  name : p.name.size ≤ 20000
  ns : p.ns.size ≤ 20000
  len : p.cs.length ≤ 1000
  cs : ∀ c ∈ p.cs, c.Sml
theorem pod_sml {p : Pd} (h : weight p ≤ 20000) : p.Sml := by
  obtain ⟨h1, h2⟩ := weightA_le p.cs _ h
  exact ⟨by omega, by omega, by omega, fun c hc => sml_of (h2 c hc)⟩
end Go.Proofs.YtfhhmajkacjbgaaDoor
