/-
  PROVED: for every two states of version 3 and every text, whose readings hold together with the library's two tables at most 1048576 values and letters, the given statement CkthreeCodes returns true, where the library's two UTF-8 tables read as the program's text lays them (the card ties that); no other condition.
-/
import Derived.Test.YtldncgelghcjeaaGreatDoorCat30
import Derived.Test.YtldncgelghcjeaaGreatDoorCat31
set_option linter.unusedSimpArgs false
set_option linter.unusedVariables false
namespace Go.Proofs.YtldncgelghcjeaaGreatDoor
theorem K.bytes_says : K.BytesSays := fun seq a L c w h hok hl h0 h1 => by
  obtain ⟨D, rfl, hr⟩ := h
  rw [K.pods3_length] at hl ⊢
  exact K.rbytes3_any seq a D c w hr hok hl h0 h1
theorem ckthreecodes : Rows.CkthreeCodesUptoCardSaid := codes_card K.bytes_says
end Go.Proofs.YtldncgelghcjeaaGreatDoor
