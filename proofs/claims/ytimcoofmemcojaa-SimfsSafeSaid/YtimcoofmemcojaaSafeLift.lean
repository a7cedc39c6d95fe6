/-
  From the walk of SimfsSafe to its row: what came in, opened; the walk stands here as a hypothesis.
-/
import Derived.Test.YtimcoofmemcojaaSafeActs
import Derived.Deep.Slices
import Derived.SizedLaws
import Derived.ChangeSame
import Derived.ChangeOld
import Derived.Carry
namespace Go.Proofs.Ytimcoofmemcojaa
open Go.ChangeShapes Go.WideShapes Go.ChangeAt Go.RowKit Go.Deep
open Go.ChangeMaps (open_string shut_string)
set_option linter.unusedVariables false
theorem cellsN34 : Try.prog.cellsOf 34 = 5 := by kernel_rfl
theorem cellsN5 : Try.prog.cellsOf 5 = 1 := by kernel_rfl
theorem cellsN9 : Try.prog.cellsOf 9 = 1 := by kernel_rfl
theorem cellsN3 : Try.prog.cellsOf 3 = 1 := by kernel_rfl
theorem cellsN23 : Try.prog.cellsOf 23 = 1 := by kernel_rfl
instance : Inhabited ActV := ⟨⟨0, ⟨#[]⟩, ⟨#[]⟩, 0, none, 0, 0⟩⟩
theorem wf64 {n : Int} (h : (Lit.int .i64 n).wf = true) : -9223372036854775808 ≤ n ∧ n ≤ 9223372036854775807 := by
  simp [Lit.wf, IntKind.min, IntKind.max, IntKind.signed, IntKind.bits] at h; omega
theorem at_add (b off n : Nat) : (⟨b, off, none⟩ : Addr).add n = ⟨b, off + n, none⟩ := by
  unfold Addr.add
  split <;> simp_all
/-- A row of numbers that came in. -/
theorem open_cuts {H : Type} {enc : TypeId × Value → H} {W : World} {fuel : Nat} {cs : List Value} {x : DataW H × List MemPlace} (h : DataW.trod enc Try.prog W 0 (fun _ => true) true fuel 23 cs = some x) :
    ∃ (a : Option Addr) (len cap : Nat), cs = [.slice a len cap] ∧ CutsV W.heap.size W a len := by
  rcases open_ints Try.underlying23 Try.underlying3 cellsN3 h with ⟨hcs, _⟩ | ⟨a, len, cap, zs, hcs, _, hlc, hcm, hz, _, hcell, hwf⟩
  · exact ⟨none, 0, 0, hcs, .inl rfl⟩
  · simp only [if_true] at hz
    refine ⟨some a, len, cap, hcs, ?_⟩
    by_cases h0 : len = 0
    · exact .inl h0
    · have c0 := hcell 0 (by omega)
      obtain ⟨b, off, spot⟩ := a
      obtain rfl : spot = none := by
        have := World.cell?_spot c0
        simpa [Addr.add] using this
      refine .inr ⟨b, off, fun i => zs.getD i 0, rfl, ?_, ?_, ?_⟩
      · have hc0 := c0
        refine Classical.byContradiction fun hge => ?_
        simp [World.cell?, Addr.add, Array.getElem?_eq_none (Nat.le_of_not_lt hge)] at hc0
      · intro i hi
        have := hcell i (by omega)
        rwa [at_add] at this
      · intro i
        show zs.getD i 0 ≤ _
        by_cases hi : i < zs.length
        · have e : zs.getD i 0 = zs[i] := by simp [List.getD, List.getElem?_eq_getElem hi]
          rw [e]
          exact (wf64 (hwf _ (List.getElem_mem hi))).2
        · have e : zs.getD i 0 = 0 := by simp [List.getD, List.getElem?_eq_none (Nat.le_of_not_lt hi)]
          rw [e]; omega
set_option maxRecDepth 100000 in
/-- The acts that came in. -/
theorem open_acts {H : Type} {enc : TypeId × Value → H} {W : World} {fuel : Nat} {a1 : Option Addr} {len cap : Nat} {x : DataW H × List MemPlace} (h : DataW.trod enc Try.prog W 0 (fun _ => true) true fuel 22 [.slice a1 len cap] = some x) :
    ActsIs W a1 len := by
  rcases open_slice Try.underlying22 h with ⟨hcs, _⟩ | ⟨a, l, c, m, n, D, Pl, hcs, _, hlc, hcm, hm, rfl, hx⟩
  · simp only [List.cons.injEq, Value.slice.injEq, and_true] at hcs
    obtain ⟨_, rfl, _⟩ := hcs
    exact .inl rfl
  · simp only [List.cons.injEq, Value.slice.injEq, and_true] at hcs
    obtain ⟨rfl, rfl, rfl⟩ := hcs
    simp only [if_true] at hm
    subst hm
    by_cases h0 : len = 0
    · exact .inl h0
    have each : ∀ i, i < len → ∃ p : ActV, (W.cell? (a.add (i * 5)) = some (.int .u8 p.kd) ∧ W.cell? (a.add (i * 5 + 1)) = some (.string p.name) ∧ W.cell? (a.add (i * 5 + 2)) = some (.string p.dst) ∧ W.cell? (a.add (i * 5 + 3)) = some (.int .i64 p.an) ∧ W.cell? (a.add (i * 5 + 4)) = some (.slice p.ca p.cn p.cc)) ∧
        (-9223372036854775808 ≤ p.an ∧ p.an ≤ 9223372036854775807) ∧ CutsV W.heap.size W p.ca p.cn := by
      intro i hi
      obtain ⟨cs', h1, h2⟩ := hx i (by omega)
      rw [cellsN34] at h1
      obtain ⟨_, hlen, hcell⟩ := World.cells?_some h1
      obtain ⟨xs, k, hk, hxy, _, hxl, hf⟩ := DataW.trod_struct Try.underlying34 h2
      match xs, hxl, cs', hlen with
      | [y0, y1, y2, y3, y4], _, [v0, v1, v2, v3, v4], _ =>
        have g0 := hf 0 _ rfl
        have g1 := hf 1 _ rfl
        have g2 := hf 2 _ rfl
        have g3 := hf 3 _ rfl
        have g4 := hf 4 _ rfl
        simp [cellsN5, cellsN9, cellsN3, cellsN23] at g0 g1 g2 g3 g4
        obtain ⟨k0, e0, f0, _⟩ := DataW.trod_int Try.underlying5 g0
        obtain ⟨k1, e1, f1, _⟩ := DataW.trod_string Try.underlying9 g1
        obtain ⟨k2, e2, f2, _⟩ := DataW.trod_string Try.underlying9 g2
        obtain ⟨k3, e3, f3, wf3⟩ := DataW.trod_int Try.underlying3 g3
        obtain ⟨ca, cn, cc, e4, hcv⟩ := open_cuts g4
        simp only [List.cons.injEq, and_true] at e0 e1 e2 e3 e4
        subst e0 e1 e2 e3 e4
        have c0 := hcell 0 (by omega)
        have c1 := hcell 1 (by omega)
        have c2 := hcell 2 (by omega)
        have c3 := hcell 3 (by omega)
        have c4 := hcell 4 (by omega)
        rw [add_add] at c0 c1 c2 c3 c4
        exact ⟨⟨k0, k1, k2, k3, ca, cn, cc⟩, ⟨by simpa using c0, by simpa using c1, by simpa using c2, by simpa using c3, by simpa using c4⟩, wf64 wf3, hcv⟩
    obtain ⟨q, hq⟩ := choose_lt each
    obtain ⟨b, off, spot⟩ := a
    obtain rfl : spot = none := by
      have := World.cell?_spot (hq 0 (by omega)).1.1
      simpa [Addr.add] using this
    refine .inr ⟨b, off, q, rfl, ?_, fun i hi => ?_, fun i hi => ?_, fun i hi => ?_, fun i hi => ?_, fun i hi => ?_, fun i hi => (hq i hi).2.1, fun i hi => (hq i hi).2.2⟩
    · have hc0 := (hq 0 (by omega)).1.1
      refine Classical.byContradiction fun hge => ?_
      simp [World.cell?, Addr.add, Array.getElem?_eq_none (Nat.le_of_not_lt hge)] at hc0
    all_goals
      obtain ⟨⟨c0, c1, c2, c3, c4⟩, _⟩ := hq i hi
      rw [at_add] at c0 c1 c2 c3 c4
    · exact c0
    · rw [Nat.add_assoc]; exact c1
    · rw [Nat.add_assoc]; exact c2
    · rw [Nat.add_assoc]; exact c3
    · rw [Nat.add_assoc]; exact c4
theorem own3 : ownKnob Try.prog.godebug = none := by kernel_rfl
theorem laidOut : laidOutB Try.prog = true := by kernel_rfl
def SafeWalk : Prop := ∀ (la : Option Addr) (ln lc : Nat) (data : ByteArray) (keep : Int) (ca : Option Addr) (cn cc : Nat) (w : World), ActsIs w la ln → -9223372036854775808 ≤ keep ∧ keep ≤ 9223372036854775807 → CutsV w.heap.size w ca cn →
    Calls Try.prog 3 #[.slice la ln lc, .string data, .int .i64 keep, .slice ca cn cc] w (SafeIs w)
set_option maxRecDepth 100000 in
theorem safe_lifted (hwalk : SafeWalk) (os : Os) (started : os.Started) (H : Type) (enc : TypeId × Value → H) :
    ReturnsInHanded {} Try.checked os 3 .any (Rows.simfsSafeSpec.pre6 enc Try.prog Try.f3 Rows.simfsSafeRow.domain false) (Rows.simfsSafeSpec.post enc Try.prog Try.f3 false true false false) := by
  refine returnsInHanded_of_change (C := Try.checked) own3 started (by kernel_rfl) Try.func3
    (ChangeSpec.witness6 (enc := enc) (C := Try.checked) false ⟨#[], #[.slice none 0 0, .string ByteArray.empty, .int .i64 0, .slice none 0 0], []⟩ 8 (by kernel_rfl) (by kernel_rfl) (by kernel_rfl) (by kernel_rfl)) ?_
  intro W base args ds gs before hval0 hW hcnd _
  have hval : ∀ (j : Nat) t v, Try.f3.params[j]? = some t → args[j]? = some v → Value.okWide Try.prog W .any base t v := hval0
  have hW' := hW
  obtain ⟨p, q, hA0, hV, rfl, hfz, hnd⟩ := hW
  have hA : DataW.TrodAll enc Try.prog W 0 (fun _ => true) true Try.f3.params.toList args.toList ds p := hA0
  rw [Try.params3] at hA hval
  obtain ⟨v0, vs0, d0, ds0, p0, q0, hargs, rfl, rfl, h0, r0⟩ := trodAll_cons hA
  obtain ⟨v1, vs1, d1, ds1, p1, q1, rfl, rfl, rfl, h1, r1⟩ := trodAll_cons r0
  obtain ⟨v2, vs2, d2, ds2, p2, q2, rfl, rfl, rfl, h2, r2⟩ := trodAll_cons r1
  obtain ⟨v3, vs3, d3, ds3, p3, q3, rfl, rfl, rfl, h3, r3⟩ := trodAll_cons r2
  obtain ⟨rfl, rfl, rfl⟩ := trodAll_nil r3
  obtain rfl : args = #[v0, v1, v2, v3] := by cases args; simp_all
  obtain ⟨rfl, rfl⟩ := trodVars_none hV
  obtain ⟨a0, l0, c0, rfl⟩ := okWide_slice Try.underlying22 (hval 0 22 v0 rfl rfl)
  obtain ⟨s1, rfl, rfl, rfl, w1⟩ := open_string Try.underlying9 (hval 1 9 v1 rfl rfl) h1
  obtain ⟨n2, rfl, rfl, rfl, w2⟩ := open_int Try.underlying3 (hval 2 3 v2 rfl rfl) h2
  obtain ⟨a3, l3, c3, rfl⟩ := okWide_slice Try.underlying23 (hval 3 23 v3 rfl rfl)
  have k0 := h0
  have k3 := h3
  have lt0 : ∀ x ∈ p0, x.block < W.heap.size := by obtain ⟨m, hm⟩ := k0; exact DataW.trod_lt m _ _ _ hm
  have lt3 : ∀ x ∈ p3, x.block < W.heap.size := by obtain ⟨m, hm⟩ := k3; exact DataW.trod_lt m _ _ _ hm
  obtain ⟨f0, g0⟩ := h0
  obtain ⟨f3, g3⟩ := h3
  have hacts := open_acts g0
  obtain ⟨a3', l3', c3', hcs3, hcuts⟩ := open_cuts g3
  simp only [Value.cells, List.cons.injEq, Value.slice.injEq, and_true] at hcs3
  obtain ⟨rfl, rfl, rfl⟩ := hcs3
  have hw := hwalk a0 l0 c0 s1 n2 a3 l3 c3 W hacts (wf64 w2) hcuts
  clear hA0 hval0
  refine hw.mono fun e W' ⟨he, hg⟩ => ?_
  subst he
  exact ⟨_, rfl, _, _, _, [], _, [], hW', trodAll_mk1 (shut_bool Try.underlying4 _), (trodAll_cons_mk (Below.trod laidOut (by kernel_rfl) (of_decide_eq_true (by kernel_rfl)) k0 hg lt0) (trodAll_cons_mk (shut_string Try.underlying9 w1) (trodAll_cons_mk (shut_int Try.underlying3 w2) (trodAll_cons_mk (Below.trod laidOut (by kernel_rfl) (of_decide_eq_true (by kernel_rfl)) k3 hg lt3) trodAll_mk0)))), rfl, Below.frame hg _, fun h => by cases h⟩
theorem safe_row (hwalk : SafeWalk) : Rows.SimfsSafeSaid :=
  OpenClaim.holds_of_wide 3 Try.f3 rfl rfl rfl rfl rfl rfl rfl ⟨rfl, rfl, rfl, rfl, rfl⟩ rfl rfl rfl rfl rfl (by kernel_rfl) Try.func3 (by kernel_rfl)
    (of_decide_eq_true (by kernel_rfl)) (by unfold Func.isWrapper; first | (rw [if_pos (by decide +kernel)]; kernel_rfl) | (rw [if_neg (by decide +kernel)]; exact ⟨rfl, rfl⟩))
    (fun os started H enc _ => safe_lifted hwalk os started H enc)
end Go.Proofs.Ytimcoofmemcojaa
