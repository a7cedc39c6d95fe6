/-
  How great a pod is.
-/
import Derived.Test.YtfhhmajkacjbgaaDoorSDef
namespace Go.Proofs.YtfhhmajkacjbgaaDoor
open Go.ChangeShapes Go.WideShapes Go.ChangeAt Go.RowKit

def cmdW (l : List ByteArray) : Nat := (l.map fun s => 10 + s.size).sum
def envW (l : List (ByteArray × ByteArray)) : Nat := (l.map fun v => 10 + v.1.size + v.2.size).sum
def ctW (c : Ct) : Nat := 20 + c.name.size + c.image.size + 10 * c.ports.length + cmdW c.cmd + envW c.env
def weightA : Nat → List Ct → Nat
  | n, [] => n
  | n, c :: r => if 20000 < n + ctW c then 20001 else weightA (n + ctW c) r
def weight (p : Pd) : Nat := weightA (p.name.size + p.ns.size) p.cs
theorem sum_snoc {α : Type} (f : α → Nat) (l : List α) (k : Nat) (h : k < l.length) : ((l.take (k + 1)).map f).sum = ((l.take k).map f).sum + f l[k] := by
  rw [List.take_succ_eq_append_getElem h, List.map_append, List.sum_append]
  simp
theorem sum_le {α : Type} (f : α → Nat) (l : List α) (b : Nat) (h : ∀ x ∈ l, f x ≤ b) : (l.map f).sum ≤ l.length * b := by
  induction l with
  | nil => simp
  | cons x l ih =>
    have h1 := h x (by simp)
    have h2 := ih (fun y hy => h y (by simp [hy]))
    rw [List.map_cons, List.sum_cons, List.length_cons, Nat.succ_mul]
    omega
theorem take_sum_le {α : Type} (f : α → Nat) (l : List α) (b k : Nat) (h : ∀ x ∈ l, f x ≤ b) (hl : l.length ≤ 1048576) (hb : b ≤ 4000000) : ((l.take k).map f).sum ≤ 4194304000000 := by
  have h1 := sum_le f (l.take k) b (fun x hx => h x (List.mem_of_mem_take hx))
  have h2 : (l.take k).length ≤ 1048576 := by rw [List.length_take]; omega
  have h3 : (l.take k).length * b ≤ 1048576 * 4000000 := Nat.mul_le_mul h2 hb
  omega
set_option maxRecDepth 100000 in
set_option maxHeartbeats 4000000 in
theorem weight_any (p : PM) (w : World) (h : p.At w) (hl : p.Low) : Calls Tryd.prog 23 #[p.val] w fun e w' => e = .returned (.int .i64 (weight p.pd : Int)) ∧ Fresh w w' := by
  obtain ⟨name, ns, rs, gr, ho, a, cap, cs⟩ := p
  have HROW := Lib.hid h.row
  have HINS := Lib.hid h.ins
  have HLC := Lib.hid hl.cs
  have hn1 := hl.name
  have hn2 := hl.ns
  have hn3 := hl.len
  have HW : Hid (weight (PM.mk name ns rs gr ho a cap cs).pd = weightA (name.size + ns.size) (cs.map (·.c))) := rfl
  dsimp only [PM.val] at *
  clear h hl
  have HA := Lib.hid (at_new w (.cells #[.string name, .string ns, .int .i64 rs, .int .i64 gr, .bool ho, .slice a cs.length cap] 25))
  have HF0 := Lib.hid ((Fresh.refl w).alloc (.cells #[.string name, .string ns, .int .i64 rs, .int .i64 gr, .bool ho, .slice a cs.length cap] 25))
  rw [HW.out]
  go_enter Tryd.func23, Tryd.ntmps23
  go_wp2
  generalize w.alloc (.cells #[.string name, .string ns, .int .i64 rs, .int .i64 gr, .bool ho, .slice a cs.length cap] 25) = W0 at *
  go_loopw [3, 20] (fun a3 a20 wr => ∃ (k n : Nat), a20 = .int .i64 (k : Int) ∧ a3 = .int .i64 (n : Int) ∧ k ≤ cs.length ∧ n ≤ 3000000 ∧ Hid (weightA (name.size + ns.size) (cs.map (·.c)) = weightA n ((cs.drop k).map (·.c))) ∧ Hid (Fresh W0 wr)) (fun _ a20 _ => cs.length - (intOf a20).toNat)
  case atStart => exact ⟨0, name.size + ns.size, rfl, by simp, Nat.zero_le _, by omega, rfl, Fresh.refl _⟩
  case round =>
    obtain ⟨k, n, rfl, rfl, hk, hn, HE, HF⟩ := hrel
    by_cases hlt : k < cs.length
    · obtain ⟨g, o1, rfl, hc⟩ := crow_form ((HROW.out.move HF0.out).move HF.out) hlt
      obtain ⟨c0, c1, c2, c3, c4, c5, c6⟩ := hc k hlt
      have HIN : Hid (cs[k].In wr) := (HINS.out _ (List.getElem_mem hlt)).move (HF0.out.trans HF.out)
      have HLOW := Lib.hid (HLC.out _ (List.getElem_mem hlt))
      have HE2 : Hid (weightA n ((cs.drop k).map (·.c)) = if 20000 < n + ctW cs[k].c then 20001 else weightA (n + ctW cs[k].c) ((cs.drop (k + 1)).map (·.c))) := by
        rw [Hid, List.drop_eq_getElem_cons hlt, List.map_cons, weightA]
      clear hc
      generalize cs[k] = m at *
      have d1 := HLOW.out.name
      have d2 := HLOW.out.image
      have d3 := HLOW.out.lp
      have d4 := HLOW.out.lc
      have d5 := HLOW.out.le
      have HCW : Hid (ctW m.c = 20 + m.c.name.size + m.c.image.size + 10 * m.c.ports.length + cmdW m.c.cmd + envW m.c.env) := rfl
      have HPC : Hid (∀ j, cmdW (m.c.cmd.take j) ≤ 4194304000000) := fun j => take_sum_le _ _ 1048586 j (fun s hs => by have := HLOW.out.cmd s hs; omega) d4 (by omega)
      have HPE : Hid (∀ j, envW (m.c.env.take j) ≤ 4194304000000) := fun j => take_sum_le _ _ 2097162 j (fun v hv => by have := HLOW.out.env v hv; omega) d5 (by omega)
      have hn0 : (n : Int) + (20 + (m.c.name.size : Int) + (m.c.image.size : Int) + 10 * (m.c.ports.length : Int)) = ((n + (20 + m.c.name.size + m.c.image.size + 10 * m.c.ports.length) : Nat) : Int) := by omega
      obtain ⟨s0, hs0⟩ : ∃ s0, s0 = n + (20 + m.c.name.size + m.c.image.size + 10 * m.c.ports.length) := ⟨_, rfl⟩
      rw [← hs0] at hn0
      have HS0 := Lib.hid hs0
      have hsb : s0 ≤ 20000000 := by omega
      clear hs0
      have HB1 := Lib.hid (at_new wr (.cells #[.string m.c.name, .string m.c.image, .slice m.ca m.c.cmd.length m.cc, .slice m.pa m.c.ports.length m.pc, .int .i64 m.c.cpu, .int .i64 m.c.mem, .slice m.ea m.c.env.length m.ec] 53))
      have HF1 := Lib.hid ((Fresh.refl wr).alloc (.cells #[.string m.c.name, .string m.c.image, .slice m.ca m.c.cmd.length m.cc, .slice m.pa m.c.ports.length m.pc, .int .i64 m.c.cpu, .int .i64 m.c.mem, .slice m.ea m.c.env.length m.ec] 53))
      go_wp2
      generalize wr.alloc (.cells #[.string m.c.name, .string m.c.image, .slice m.ca m.c.cmd.length m.cc, .slice m.pa m.c.ports.length m.pc, .int .i64 m.c.cpu, .int .i64 m.c.mem, .slice m.ea m.c.env.length m.ec] 53) = W1 at *
      clear c0 c1 c2 c3 c4 c5 c6
      go_loopw [3, 42] (fun a3 a42 wq => ∃ (j s : Nat), a42 = .int .i64 (j : Int) ∧ a3 = .int .i64 (s : Int) ∧ j ≤ m.c.cmd.length ∧ Hid (s = s0 + cmdW (m.c.cmd.take j)) ∧ W1 = wq) (fun _ a42 _ => m.c.cmd.length - (intOf a42).toNat)
      case atStart => exact ⟨0, s0, rfl, rfl, Nat.zero_le _, by simp [Hid, cmdW], rfl⟩
      case round =>
        obtain ⟨j, s, rfl, rfl, hj, HS, rfl⟩ := hrel
        have hs1 : s ≤ 4194324000000 := by have := HS.out; have := HPC.out j; omega
        by_cases hlt2 : j < m.c.cmd.length
        · obtain ⟨g2, o2, e2, hc2⟩ := trow_form (HIN.out.cmd.move HF1.out) hlt2
          have c1 := hc2 j hlt2
          have HSN : Hid (cmdW (m.c.cmd.take (j + 1)) = cmdW (m.c.cmd.take j) + (10 + m.c.cmd[j].size)) := sum_snoc _ _ j hlt2
          have hx := HLOW.out.cmd _ (List.getElem_mem hlt2)
          clear hc2
          generalize m.c.cmd[j] = x at *
          have hadd : (s : Int) + (10 + (x.size : Int)) = ((s + (10 + x.size) : Nat) : Int) := by omega
          have HS2 : Hid (s + (10 + x.size) = s0 + cmdW (m.c.cmd.take (j + 1))) := by rw [Hid, HSN.out, HS.out]; omega
          generalize hs2 : s + (10 + x.size) = s2 at *
          clear hs2
          rw [e2]
          go_wp2
          all_goals try (exfalso; omega)
          go_roundw
          case rel => exact ⟨j + 1, s2, by simp, rfl, by omega, HS2.out, by trivial⟩
          case measure => simp [intOf]; omega
        · obtain rfl : j = m.c.cmd.length := by omega
          have HS3 : Hid (s = s0 + cmdW m.c.cmd) := by have := HS.out; rw [List.take_length] at this; exact this
          have HB6 := cell_of_at HB1.out (i := 6) (v := .slice m.ea m.c.env.length m.ec) rfl
          clear HS
          go_wp2
          all_goals try (exfalso; omega)
          go_loopw [3, 55] (fun a3 a55 wq => ∃ (j s' : Nat), a55 = .int .i64 (j : Int) ∧ a3 = .int .i64 (s' : Int) ∧ j ≤ m.c.env.length ∧ Hid (s' = s + envW (m.c.env.take j)) ∧ Hid (Fresh W1 wq)) (fun _ a55 _ => m.c.env.length - (intOf a55).toNat)
          case atStart => exact ⟨0, s, rfl, rfl, Nat.zero_le _, by simp [Hid, envW], Fresh.refl _⟩
          case round =>
            obtain ⟨j, s', rfl, rfl, hj, HS, HFq⟩ := hrel
            have hs1' : s' ≤ 8388628000000 := by have := HS.out; have := HPE.out j; omega
            by_cases hlt2 : j < m.c.env.length
            · obtain ⟨g2, o2, e2, hc2⟩ := erow_form ((HIN.out.env.move HF1.out).move HFq.out) hlt2
              obtain ⟨c1, c2⟩ := hc2 j hlt2
              have HSN : Hid (envW (m.c.env.take (j + 1)) = envW (m.c.env.take j) + (10 + m.c.env[j].1.size + m.c.env[j].2.size)) := sum_snoc _ _ j hlt2
              obtain ⟨hx, hy⟩ := HLOW.out.env _ (List.getElem_mem hlt2)
              clear hc2
              generalize m.c.env[j].1 = x at *
              generalize m.c.env[j].2 = y at *
              have hadd : (s' : Int) + (10 + (x.size : Int) + (y.size : Int)) = ((s' + (10 + x.size + y.size) : Nat) : Int) := by omega
              have HS2 : Hid (s' + (10 + x.size + y.size) = s + envW (m.c.env.take (j + 1))) := by rw [Hid, HSN.out, HS.out]; omega
              generalize hs2 : s' + (10 + x.size + y.size) = s2 at *
              clear hs2
              rw [e2]
              go_wp2
              all_goals try (exfalso; omega)
              go_roundw
              case rel => exact ⟨j + 1, s2, by simp, rfl, by omega, HS2.out, HFq.out.alloc _⟩
              case measure => simp [intOf]; omega
            · obtain rfl : j = m.c.env.length := by omega
              have HS4 : Hid (n + ctW m.c = s') := by
                have h1 := HS.out
                rw [List.take_length] at h1
                have h2 := HS3.out
                have h3 := HS0.out
                have h4 := HCW.out
                rw [Hid]; omega
              rw [HS4.out] at HE2
              clear HS
              by_cases hbig : 20000 < s'
              · have HR : Hid (weightA (name.size + ns.size) (cs.map (·.c)) = 20001) := by rw [Hid, HE.out, HE2.out, if_pos hbig]
                go_wp2
                all_goals try (exfalso; omega)
                go_ret
                exact ⟨ret_int (by rw [HR.out]; rfl), ((HF0.out.trans HF.out).trans HF1.out).trans HFq.out⟩
              · have HR : Hid (weightA (name.size + ns.size) (cs.map (·.c)) = weightA s' ((cs.drop (k + 1)).map (·.c))) := by rw [Hid, HE.out, HE2.out, if_neg hbig]
                go_wp2
                all_goals try (exfalso; omega)
                go_roundw
                case rel => exact ⟨k + 1, s', by simp, rfl, by omega, by omega, HR.out, (HF.out.trans HF1.out).trans HFq.out⟩
                case measure => simp [intOf]; omega
    · obtain rfl : k = cs.length := by omega
      have HE3 : Hid (weightA (name.size + ns.size) (cs.map (·.c)) = n) := by rw [Hid, HE.out, List.drop_length]; rfl
      go_wp2
      all_goals try (exfalso; omega)
      go_ret
      exact ⟨ret_int (by rw [HE3.out]), HF0.out.trans HF.out⟩
end Go.Proofs.YtfhhmajkacjbgaaDoor
