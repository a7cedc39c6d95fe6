/-
  The steps that a statement takes, opened: each lies in memory, its text within the reach.
-/
import Derived.Test.YtonakfkiidhebaaDoorSmall
import Derived.Deep.Slices
import Derived.SizedLaws
import Derived.ChangeSame
namespace Go.Proofs.YtonakfkiidhebaaDoor
open Go.ChangeShapes Go.WideShapes Go.ChangeAt Go.RowKit Go.Deep

theorem cells60 : Tryd.prog.cellsOf 60 = 5 := by kernel_rfl
theorem cells3 : Tryd.prog.cellsOf 3 = 1 := by kernel_rfl
theorem cells4 : Tryd.prog.cellsOf 4 = 1 := by kernel_rfl
theorem cells2 : Tryd.prog.cellsOf 2 = 1 := by kernel_rfl
theorem cells9 : Tryd.prog.cellsOf 9 = 1 := by kernel_rfl
instance : Inhabited Pt := ⟨⟨0, 0, false, 0, ⟨#[]⟩⟩⟩
theorem weights_all {H : Type} {P : Program} {e : TypeId} {n : Nat} : ∀ {l : List (DataW H)} {d : DataW H}, d ∈ l → n ∈ d.weights P e → n ∈ DataW.weightsAll P e l
  | [], _, h, _ => by cases h
  | a :: l, d, h, hn => by
    simp only [DataW.weightsAll, List.mem_append]
    rcases List.mem_cons.1 h with rfl | h
    · exact .inl hn
    · exact .inr (weights_all h hn)
theorem open_parts {H : Type} {enc : TypeId × Value → H} {W : World} {fuel : Nat} {a1 : Option Addr} {len cap : Nat} {x : DataW H × List MemPlace} (h : DataW.trod enc Tryd.prog W 0 (fun _ => true) true fuel 22 [.slice a1 len cap] = some x) :
    len ≤ 9223372036854775807 ∧ ∃ pt : Nat → Pt, ∀ i, i < len → (∃ b off, a1 = some ⟨b, off, none⟩ ∧ (pt i).lies W b (off + i * 5)) ∧ (pt i).text.size ∈ x.1.weights Tryd.prog 22 := by
  rcases open_slice Tryd.underlying22 h with ⟨hcs, _⟩ | ⟨a, l, c, m, n, D, Pl, hcs, _, hlc, hcm, hm, rfl, hx⟩
  · simp only [List.cons.injEq, Value.slice.injEq, and_true] at hcs
    obtain ⟨_, rfl, _⟩ := hcs
    exact ⟨Nat.zero_le _, fun _ => default, fun i hi => absurd hi (Nat.not_lt_zero _)⟩
  · simp only [List.cons.injEq, Value.slice.injEq, and_true] at hcs
    obtain ⟨rfl, rfl, rfl⟩ := hcs
    simp only [if_true] at hm
    subst hm
    have each : ∀ i, i < len → ∃ p : Pt, (W.cell? (a.add (i * 5)) = some (.int .i64 p.kind) ∧ W.cell? (a.add (i * 5 + 1)) = some (.int .i64 p.many) ∧ W.cell? (a.add (i * 5 + 2)) = some (.bool p.flag) ∧ W.cell? (a.add (i * 5 + 3)) = some (.int .i64 p.num) ∧ W.cell? (a.add (i * 5 + 4)) = some (.string p.text)) ∧
        D i = .agg [.lit (.int .i64 p.kind), .lit (.int .i64 p.many), .lit (.bool p.flag), .lit (.int .i64 p.num), .lit (.string p.text.data.toList)] := by
      intro i hi
      obtain ⟨cs', h1, h2⟩ := hx i (by omega)
      rw [cells60] at h1
      obtain ⟨_, hlen, hcell⟩ := World.cells?_some h1
      obtain ⟨xs, k, hk, hxy, _, hxl, hf⟩ := DataW.trod_struct Tryd.underlying60 h2
      match xs, hxl, cs', hlen with
      | [y0, y1, y2, y3, y4], _, [v0, v1, v2, v3, v4], _ =>
        have g0 := hf 0 _ rfl
        have g1 := hf 1 _ rfl
        have g2 := hf 2 _ rfl
        have g3 := hf 3 _ rfl
        have g4 := hf 4 _ rfl
        simp [cells3, cells4, cells2, cells9] at g0 g1 g2 g3 g4
        obtain ⟨k0, e0, f0, _⟩ := DataW.trod_int Tryd.underlying3 g0
        obtain ⟨k1, e1, f1, _⟩ := DataW.trod_int Tryd.underlying3 g1
        obtain ⟨k2, e2, f2⟩ := DataW.trod_bool Tryd.underlying4 g2
        obtain ⟨k3, e3, f3, _⟩ := DataW.trod_int Tryd.underlying2 g3
        obtain ⟨k4, e4, f4, _⟩ := DataW.trod_string Tryd.underlying9 g4
        simp only [List.cons.injEq, and_true] at e0 e1 e2 e3 e4
        subst e0 e1 e2 e3 e4
        have c0 := hcell 0 (by omega)
        have c1 := hcell 1 (by omega)
        have c2 := hcell 2 (by omega)
        have c3 := hcell 3 (by omega)
        have c4 := hcell 4 (by omega)
        rw [add_add] at c0 c1 c2 c3 c4
        simp only [Prod.mk.injEq] at hxy
        refine ⟨⟨k0, k1, k2, k3, k4⟩, ⟨by simpa using c0, by simpa using c1, by simpa using c2, by simpa using c3, by simpa using c4⟩, ?_⟩
        rw [hxy.1, f0, f1, f2, f3, f4]
        rfl
    obtain ⟨q, hq⟩ := choose_lt each
    refine ⟨by unfold maxLen at hcm; omega, q, fun i hi => ⟨?_, ?_⟩⟩
    · obtain ⟨⟨c0, c1, c2, c3, c4⟩, _⟩ := hq i hi
      obtain ⟨b, off, spot⟩ := a
      obtain rfl : spot = none := by
        have := World.cell?_spot (hq 0 (by omega)).1.1
        simpa [Addr.add] using this
      rw [addr_add] at c0 c1 c2 c3 c4
      exact ⟨b, off, rfl, c0, by rw [Nat.add_assoc]; exact c1, by rw [Nat.add_assoc]; exact c2, by rw [Nat.add_assoc]; exact c3, by rw [Nat.add_assoc]; exact c4⟩
    · have hd := (hq i hi).2
      simp only [DataW.weights, Tryd.underlying22, List.mem_cons, List.mem_append]
      refine .inr (.inl (weights_all (List.mem_map.2 ⟨i, List.mem_range.2 hi, hd⟩) ?_))
      simp [DataW.weights, Tryd.underlying60, DataW.weightsEach]
end Go.Proofs.YtonakfkiidhebaaDoor
