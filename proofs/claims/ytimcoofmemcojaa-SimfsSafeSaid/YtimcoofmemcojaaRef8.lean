/-
  The document's answer for layer 4: Do of any deed; wait.
-/
import Derived.Test.YtimcoofmemcojaaRel
import Derived.Test.YtimcoofmemcojaaRef4
import Derived.Test.YtimcoofmemcojaaCopy
namespace Go.Proofs.Ytimcoofmemcojaa
open Go.ChangeShapes Go.WideShapes Go.ChangeAt Go.RowKit
variable {w : World}

abbrev dval (d : RDeed) : Value := .agg #[.int .i64 d.kind, .string d.src, .string d.dst, .int .i64 d.file]
def RDeed.Is (d : RDeed) : Prop := d.kind = 0 ∨ d.kind = 1 ∨ d.kind = 2
theorem rdo_any {B : Nat} (v : Value) (l : List Und) (d : RDeed) (hd : d.Is) (hl : l.length ≤ 900000) (h : undAt B w v l) : Calls Try.prog 42 #[v, dval d] w (DoIs w (onL l d)) := by
  obtain ⟨k, src, dst, f⟩ := d
  rcases hd with h0 | h0 | h0
  · dsimp only at h0; subst h0
    exact rdo_came v l src dst f hl h
  · dsimp only at h0; subst h0
    exact rdo_went v l src dst f hl h
  · dsimp only at h0; subst h0
    exact rdo_gone v l src dst f hl h
def RSt.waits (r : RSt) (d : RDeed) : RSt := { r with now := onL r.now d, wait := r.wait ++ [d] }
theorem rdCells_snoc (l : List RDeed) (d : RDeed) : rdCells (l ++ [d]) = rdCells l ++ d.cells := by simp [rdCells]
theorem rd_one (l : List RDeed) : ∀ x ∈ rdCells l, x.oneCell' = true := by
  intro x hx
  obtain ⟨d, _, hx⟩ := List.mem_flatMap.1 hx
  simp only [RDeed.cells, List.mem_cons, List.not_mem_nil, or_false] at hx
  rcases hx with rfl | rfl | rfl | rfl <;> rfl
theorem info81 : (Try.prog.info? 81).map (fun i => (i.zero, i.size, i.bytes)) = some (some (.agg #[.int .i64 0, .string ⟨#[]⟩, .string ⟨#[]⟩, .int .i64 0]), 4, 48) := by kernel_rfl
theorem grown_keep {a b : World} {row : Option Nat} {k : Nat} {o : Obj} (hg : a.grownBy b row) (hk : a.heap[k]? = some o) (hne : some k ≠ row) : b.heap[k]? = some o := (hg.block k (lt_of_at hk) hne).trans hk
end Go.Proofs.Ytimcoofmemcojaa
