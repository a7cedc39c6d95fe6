/-
  A pod with its defaults, by package spec: for every pod.
-/
import Derived.Test.YtfhhmajkacjbgaaDoorSPdefA
import Derived.Test.YtfhhmajkacjbgaaDoorSPdefB
namespace Go.Proofs.YtfhhmajkacjbgaaDoor
theorem default_any (p : PM) (w : World) (h : p.At w) (hl : p.Low) : Calls Tryd.prog 12 #[p.val] w fun e w' => ∃ q : PM, e = .returned q.val ∧ q.pd = defP p.pd ∧ QAt w' w.heap.size q ∧ Fresh w w' := by
  obtain ⟨name, ns, rs, gr, ho, a, cap, cs⟩ := p
  have fin : ∀ (e : Ending) (w' : World), (∃ (a' : Option Addr) (cap' : Nat) (D : List CM), e = .returned (.agg #[.string name, .string (if ns.size = 0 then nsDef else ns), .int .i64 rs, .int .i64 (if gr = 0 then 30 else gr), .bool ho, .slice a' cs.length cap']) ∧ D.length = cs.length ∧ D.map (·.c) = cs.map (fun m => defC m.c) ∧ w'.ownsRow w.heap.size 53 7 (.slice a' cs.length cap') cs.length (ccells D) ∧ (∀ m ∈ D, QIn w' w.heap.size m) ∧ Fresh w w') →
      ∃ q : PM, e = .returned q.val ∧ q.pd = defP (PM.mk name ns rs gr ho a cap cs).pd ∧ QAt w' w.heap.size q ∧ Fresh w w' := by
    rintro e w' ⟨a', cap', D, rfl, h1, h2, h3, h4, h5⟩
    refine ⟨⟨name, if ns.size = 0 then nsDef else ns, rs, if gr = 0 then 30 else gr, ho, a', cap', D⟩, ?_, ?_, ⟨?_, h4⟩, h5⟩
    · show _ = Ending.returned (.agg #[_, _, _, _, _, .slice a' D.length cap'])
      rw [h1]
    · unfold PM.pd defP
      simp only [List.map_map]
      rw [h2]; rfl
    · show w'.ownsRow _ _ _ (.slice a' D.length cap') D.length (ccells D)
      rw [h1]; exact h3
  by_cases hns : ns = ⟨#[]⟩
  · exact (pdef_A name ns rs gr ho a cap cs w h.row h.ins hl.cs hl.len hl.name hl.ns hns).mono fin
  · exact (pdef_B name ns rs gr ho a cap cs w h.row h.ins hl.cs hl.len hl.name hl.ns hns).mono fin
end Go.Proofs.YtfhhmajkacjbgaaDoor
