/-
  The document's Default, walked.
-/
import Derived.Test.YtfhhmajkacjbgaaDoorSDef
import Derived.Deep.Cut
namespace Go.Proofs.YtfhhmajkacjbgaaDoor
open Go.ChangeShapes Go.WideShapes Go.ChangeAt Go.RowKit

/-- What Default answers. -/
def PM.dft (p : PM) (a : Option Addr) (cap : Nat) : PM := { p with ns := if p.ns.size = 0 then nsDef else p.ns, grace := if p.grace = 0 then 30 else p.grace, cs := p.cs.map CM.dft, a := a, cap := cap }
theorem dft_pd (p : PM) (a : Option Addr) (cap : Nat) : (p.dft a cap).pd = defP p.pd := by
  unfold PM.dft PM.pd defP
  simp only [List.map_map]
  rfl
theorem RowAt.set {w : World} {a : Option Addr} {cs : List Value} (h : RowAt w a cs) {p : Addr} (hp : ∀ ad : Addr, a = some ad → ad.block ≠ p.block) (v : Value) : RowAt (w.setCell p v) a cs := by
  rcases h with h | ⟨g, o, e, h⟩
  · exact .inl h
  · refine .inr ⟨g, o, e, fun j x hj => ?_⟩
    rw [World.cell?_setCell_other (a := p) (b := ⟨g, o + j, none⟩) (h := fun e2 => hp ⟨g, o, none⟩ e (by rw [e2]))]
    exact h j x hj
theorem tl_some {s : ByteArray} (h : ¬ s = ⟨#[]⟩) : s.toList.isEmpty = false := by
  rw [Lib.toList_data]
  cases hs : s.data.toList with
  | nil => exact absurd (ByteArray.ext (Array.toList_inj.1 hs)) h
  | cons a l => rfl
end Go.Proofs.YtfhhmajkacjbgaaDoor
