/-
  States that came in, opened: where their rows lie; how great they are.
-/
import Derived.Test.YtphjhlnjfcfdcaaKBase
import Derived.Deep.Slices
import Derived.SizedLaws
import Derived.ChangeSame
import Derived.ChangeOld
import Derived.Carry
namespace Go.Proofs.Ytphjhlnjfcfdcaa
open Go.ChangeShapes Go.WideShapes Go.ChangeAt Go.RowKit Go.Deep
set_option maxRecDepth 100000

theorem weights_all {H : Type} {P : Program} {e : TypeId} {n : Nat} : ∀ {l : List (DataW H)} {d : DataW H}, d ∈ l → n ∈ d.weights P e → n ∈ DataW.weightsAll P e l
  | [], _, h, _ => by cases h
  | a :: l, d, h, hn => by
    simp only [DataW.weightsAll, List.mem_append]
    rcases List.mem_cons.1 h with rfl | h
    · exact .inl hn
    · exact .inr (weights_all h hn)
theorem sized_mem {H : Type} {P : Program} {ts : List TypeId} {ds : List (DataW H)} (h : (DataW.weightsEach P ts ds).all (· ≤ reachBytes) = true) {j : Nat} {t : TypeId} {d : DataW H} (ht : ts[j]? = some t) (hd : ds[j]? = some d) {n : Nat} (hn : n ∈ d.weights P t) : n ≤ 140737488351232 := by
  have := List.all_eq_true.1 h _ (DataW.weights_mem_each ht hd n hn)
  have h2 : n ≤ reachBytes := by simpa using this
  have h3 : reachBytes = 140737488351232 := by decide
  omega
theorem own_knob : ownKnob Try.prog.godebug = none := by kernel_rfl
theorem laidOut : laidOutB Try.prog = true := by kernel_rfl
theorem trod_low {H : Type} {enc : TypeId × Value → H} {W : World} {t : TypeId} {v : Value} {d : DataW H} {p : List MemPlace} (h : DataW.Trod enc Try.prog W 0 (fun _ => true) true t v d p) : ∀ x ∈ p, x.block < W.heap.size := by
  obtain ⟨m, hm⟩ := h
  exact DataW.trod_lt m _ _ _ hm
theorem bulk_one {H : Type} (d : DataW H) : 1 ≤ Rows.uptoBulk d := by
  cases d with
  | lit l => cases l <;> simp [Rows.uptoBulk]
  | nil => simp [Rows.uptoBulk]
  | ptr d => simp [Rows.uptoBulk]
  | slice elems spare => simp [Rows.uptoBulk]
  | agg parts => simp [Rows.uptoBulk]
  | iface t d => simp [Rows.uptoBulk]
  | map entries => simp [Rows.uptoBulk]
  | held h => simp [Rows.uptoBulk]
theorem bulk_part {H : Type} {d : DataW H} {l : List (DataW H)} (h : d ∈ l) : Rows.uptoBulk d ≤ Rows.uptoBulkAll l := by
  induction l with
  | nil => cases h
  | cons x r ih =>
    simp only [Rows.uptoBulkAll]
    cases List.mem_cons.1 h with
    | inl e => subst e; omega
    | inr e => have := ih e; omega
theorem bulk_len {H : Type} (l : List (DataW H)) : l.length ≤ Rows.uptoBulkAll l := by
  induction l with
  | nil => simp
  | cons x r ih => have := bulk_one x; simp only [Rows.uptoBulkAll, List.length_cons]; omega
/-- A slice's row, its elements read by 'each'. -/
theorem open_rows {H : Type} {enc : TypeId × Value → H} {W : World} {fuel : Nat} {α : Type} [Inhabited α] {t e k : Nat} (cell : α → List Value) (P : α → DataW H → Prop) (hk : ∀ y, (cell y).length = k) (hkp : 0 < k) (ht : Try.prog.underlying t = some (.slice e)) (hc : Try.prog.cellsOf e = k)
    (each : ∀ n cs' d pl, DataW.trod enc Try.prog W 0 (fun _ => true) true n e cs' = some (d, pl) → ∃ y, cs' = cell y ∧ P y d) {cs : List Value} {x : DataW H × List MemPlace} (h : DataW.trod enc Try.prog W 0 (fun _ => true) true fuel t cs = some x) :
    ∃ (l : List α) (a : Option Addr) (cap : Nat), cs = [.slice a l.length cap] ∧ RowAt W a (l.flatMap cell) ∧ (∀ y ∈ l, ∃ d, P y d ∧ Rows.uptoBulk d ≤ Rows.uptoBulk x.1 ∧ ∀ n, n ∈ d.weights Try.prog e → n ∈ x.1.weights Try.prog t) ∧ l.length ≤ Rows.uptoBulk x.1 ∧ l.length ≤ cap ∧ l.length ≤ maxLen := by
  rcases open_slice ht h with ⟨rfl, rfl⟩ | ⟨ad, len, cap, m, n, D, Pl, rfl, _, hlc, hcm, hm, rfl, hx⟩
  · exact ⟨[], none, 0, rfl, RowAt.nil _ _, (fun y h => absurd h List.not_mem_nil), Nat.zero_le _, Nat.zero_le _, Nat.zero_le _⟩
  · simp only [if_true] at hm
    rw [hm] at hx
    rw [hc] at hx
    have hlm := hlc
    have get : ∀ i, i < len → ∃ y : α, (∀ j v, (cell y)[j]? = some v → W.cell? ((ad.add (i * k)).add j) = some v) ∧ P y (D i) := fun i hi => by
      obtain ⟨cs', h1, h2⟩ := hx i (by omega)
      obtain ⟨_, hlen, hcell⟩ := World.cells?_some h1
      obtain ⟨y, rfl, hp⟩ := each _ _ _ _ h2
      refine ⟨y, fun j v hj => ?_, hp⟩
      have hj3 := (List.getElem?_eq_some_iff.1 hj).1
      rw [hcell j (by rw [← hk y]; exact hj3)]
      exact hj
    obtain ⟨q, hq⟩ := choose_lt get
    have hll : ((List.range len).map q).length = len := by simp
    refine ⟨(List.range len).map q, some ad, cap, by rw [hll], ?_, ?_, ?_, by rw [hll]; exact hlc, by rw [hll]; unfold maxLen at hcm ⊢; omega⟩
    · by_cases h0 : len = 0
      · subst h0; exact .nil _ _
      · obtain ⟨b, off, spot⟩ := ad
        have hc0 : ∃ v, (cell (q 0))[0]? = some v := ⟨_, List.getElem?_eq_getElem (by rw [hk]; exact hkp)⟩
        obtain ⟨v0, hv0⟩ := hc0
        obtain rfl : spot = none := by
          have := World.cell?_spot ((hq 0 (by omega)).1 0 v0 hv0)
          simpa [Addr.add] using this
        refine .inr ⟨b, off, rfl, fun j v hj => ?_⟩
        have hjl : j < len * k := by
          have := (List.getElem?_eq_some_iff.1 hj).1
          rw [flat_length cell k hk, hll] at this
          exact this
        have hi : j / k < len := Nat.div_lt_of_lt_mul (by rw [Nat.mul_comm]; exact hjl)
        have hr : j % k < k := Nat.mod_lt _ hkp
        have hjd : j / k * k + j % k = j := by rw [Nat.mul_comm]; exact Nat.div_add_mod j k
        have hg := flat_get cell k hk ((List.range len).map q) (j / k) (by rw [hll]; exact hi) (j % k) hr
        rw [hjd, hj] at hg
        have he : ((List.range len).map q)[j / k]'(by rw [hll]; exact hi) = q (j / k) := by simp
        rw [he] at hg
        have := (hq (j / k) hi).1 (j % k) v hg.symm
        rw [addr_add, addr_add, Nat.add_assoc, hjd] at this
        exact this
    · intro y hy
      obtain ⟨i, hi, rfl⟩ := List.mem_map.1 hy
      have hi' := List.mem_range.1 hi
      refine ⟨D i, (hq i hi').2, ?_, fun n hn => ?_⟩
      rotate_left
      · simp only [DataW.weights, ht, List.mem_cons, List.mem_append]
        exact .inr (.inl (weights_all (List.mem_map.2 ⟨i, List.mem_range.2 hi', rfl⟩) hn))
      have : D i ∈ (List.range len).map D := List.mem_map.2 ⟨i, hi, rfl⟩
      have h2 := bulk_part this
      simp only [Rows.uptoBulk]
      omega
    · rw [hll]
      have := bulk_len ((List.range len).map D)
      simp only [Rows.uptoBulk]
      rw [List.length_map, List.length_range] at this
      omega
theorem cells_str : Try.prog.cellsOf 9 = 1 := by kernel_rfl
theorem cells_u8 : Try.prog.cellsOf 5 = 1 := by kernel_rfl
theorem cells_u32 : Try.prog.cellsOf 22 = 1 := by kernel_rfl
theorem cells_pod1 : Try.prog.cellsOf 66 = 4 := by kernel_rfl
theorem cells_spod1 : Try.prog.cellsOf 23 = 1 := by kernel_rfl
theorem cells_state1 : Try.prog.cellsOf 25 = 2 := by kernel_rfl
theorem u8_of {v : Int} (h : (Lit.int .u8 v).wf = true) : 0 ≤ v ∧ v ≤ 255 := by
  simp [Lit.wf, IntKind.min, IntKind.max, IntKind.signed, IntKind.bits] at h; omega
theorem u32_of {v : Int} (h : (Lit.int .u32 v).wf = true) : 0 ≤ v ∧ v ≤ 4294967295 := by
  simp [Lit.wf, IntKind.min, IntKind.max, IntKind.signed, IntKind.bits] at h; omega
/-- What a pod's datum says of its size. -/
def PodD {H : Type} (p : P1) (d : DataW H) : Prop :=
  (∀ K, (∀ n, n ∈ d.weights Try.prog 66 → n ≤ K) → p.Fit K) ∧ (∀ K, Rows.uptoBulk d ≤ K → p.Fit K)
theorem open_pod1 {H : Type} {enc : TypeId × Value → H} {W : World} {fuel : Nat} {cs : List Value} {d : DataW H} {pl : List MemPlace} (h : DataW.trod enc Try.prog W 0 (fun _ => true) true fuel 66 cs = some (d, pl)) :
    ∃ p : P1, cs = p.cells ∧ PodD p d := by
  obtain ⟨xs, k, hk, hxy, hlen, hxl, hf⟩ := DataW.trod_struct Try.underlying66 h
  rw [cells_pod1] at hlen
  match xs, hxl, cs, hlen with
  | [y0, y1, y2, y3], _, [v0, v1, v2, v3], _ =>
    have g0 := hf 0 _ rfl
    have g1 := hf 1 _ rfl
    have g2 := hf 2 _ rfl
    have g3 := hf 3 _ rfl
    simp [cells_str, cells_u8] at g0 g1 g2 g3
    obtain ⟨k0, e0, f0, _⟩ := DataW.trod_string Try.underlying9 g0
    obtain ⟨k1, e1, f1, _⟩ := DataW.trod_string Try.underlying9 g1
    obtain ⟨k2, e2, f2, _⟩ := DataW.trod_string Try.underlying9 g2
    obtain ⟨k3, e3, f3, w3⟩ := DataW.trod_int Try.underlying5 g3
    simp only [List.cons.injEq, and_true] at e0 e1 e2 e3
    subst e0 e1 e2 e3
    simp only [Prod.mk.injEq] at hxy
    obtain ⟨b0, b1⟩ := u8_of w3
    refine ⟨⟨k0, k1, k2, k3⟩, rfl, fun K hK => ?_, fun K hK => ?_⟩
    · rw [hxy.1] at hK
      simp only [List.map_cons, List.map_nil, f0, f1, f2, f3] at hK
      have hw : ∀ n ∈ [k0.data.toList.length, k1.data.toList.length, k2.data.toList.length], n ≤ K := fun n hn => hK n (by
        simp [DataW.weights, Try.underlying66, DataW.weightsEach]
        simpa using hn)
      refine ⟨?_, ?_, ?_, b0, b1⟩
      · show k0.size ≤ K; rw [Lib.size_eq]; exact hw _ (by simp)
      · show k1.size ≤ K; rw [Lib.size_eq]; exact hw _ (by simp)
      · show k2.size ≤ K; rw [Lib.size_eq]; exact hw _ (by simp)
    · rw [hxy.1] at hK
      simp only [List.map_cons, List.map_nil, f0, f1, f2, f3, Rows.uptoBulk, Rows.uptoBulkAll] at hK
      refine ⟨?_, ?_, ?_, b0, b1⟩
      · show k0.size ≤ K; rw [Lib.size_eq]; omega
      · show k1.size ≤ K; rw [Lib.size_eq]; omega
      · show k2.size ≤ K; rw [Lib.size_eq]; omega
/-- What a state's datum says of it. -/
structure St1D {H : Type} (seq : Int) (l : List P1) (d : DataW H) : Prop where
  s0 : 0 ≤ seq
  s1 : seq ≤ 4294967295
  len : l.length ≤ maxLen
  wt : ∀ K, (∀ n, n ∈ d.weights Try.prog 25 → n ≤ K) → ∀ p ∈ l, p.Fit K
  bk : ∀ K, Rows.uptoBulk d ≤ K → l.length ≤ K ∧ ∀ p ∈ l, p.Fit K
instance : Inhabited P1 := ⟨⟨⟨#[]⟩, ⟨#[]⟩, ⟨#[]⟩, 0⟩⟩
theorem open_st1 {H : Type} {enc : TypeId × Value → H} {W : World} {fuel : Nat} {cs : List Value} {d : DataW H} {pl : List MemPlace} (h : DataW.trod enc Try.prog W 0 (fun _ => true) true fuel 25 cs = some (d, pl)) :
    ∃ (seq : Int) (l : List P1) (a : Option Addr) (c : Nat), cs = [.int .u32 seq, .slice a l.length c] ∧ RowAt W a (p1s l) ∧ St1D seq l d := by
  obtain ⟨xs, k, hk, hxy, hlen, hxl, hf⟩ := DataW.trod_struct Try.underlying25 h
  rw [cells_state1] at hlen
  match xs, hxl, cs, hlen with
  | [y0, y1], _, [v0, v1], _ =>
    have g0 := hf 0 _ rfl
    have g1 := hf 1 _ rfl
    simp [cells_u32, cells_spod1] at g0 g1
    obtain ⟨k0, e0, f0, w0⟩ := DataW.trod_int Try.underlying22 g0
    obtain ⟨l, a, cap, e1, r1, b1, n1, l1, m1⟩ := open_rows (α := P1) P1.cells (fun p d => PodD p d) (fun _ => rfl) (by decide) Try.underlying23 cells_pod1 (fun n cs' d pl h => open_pod1 h) g1
    simp only [List.cons.injEq, and_true] at e0 e1
    subst e0 e1
    simp only [Prod.mk.injEq] at hxy
    obtain ⟨b0, b00⟩ := u32_of w0
    refine ⟨k0, l, a, cap, rfl, r1, b0, b00, m1, fun K hK p hp => ?_, fun K hK => ⟨?_, fun p hp => ?_⟩⟩
    · rw [hxy.1] at hK
      simp only [List.map_cons, List.map_nil] at hK
      obtain ⟨d', h1, _, h3⟩ := b1 p hp
      refine h1.1 K (fun n hn => hK n ?_)
      simp only [DataW.weights, Try.underlying25]
      simp [DataW.weightsEach]
      exact .inr (h3 n hn)
    · rw [hxy.1] at hK
      simp only [List.map_cons, List.map_nil, Rows.uptoBulk, Rows.uptoBulkAll] at hK
      omega
    · rw [hxy.1] at hK
      simp only [List.map_cons, List.map_nil, Rows.uptoBulk, Rows.uptoBulkAll] at hK
      obtain ⟨d', h1, h2, _⟩ := b1 p hp
      exact h1.2 K (by omega)
/-- A state among the arguments. -/
theorem arg_st1 {H : Type} {enc : TypeId × Value → H} {W : World} {base : Nat} {v : Value} {d : DataW H} {p : List MemPlace} (ho : Value.okWide Try.prog W .any base 25 v) (h : DataW.Trod enc Try.prog W 0 (fun _ => true) true 25 v d p) :
    ∃ (seq : Int) (l : List P1) (a : Option Addr) (c : Nat), v = st1 seq a l.length c ∧ RowAt W a (p1s l) ∧ St1D seq l d := by
  obtain ⟨cs, rfl, hs⟩ := okWide_struct Try.underlying25 ho
  obtain ⟨f, g⟩ := h
  obtain ⟨seq, l, a, c, h1, h2, h3⟩ := open_st1 g
  refine ⟨seq, l, a, c, ?_, h2, h3⟩
  have : cs = #[.int .u32 seq, .slice a l.length c] := Array.toList_inj.1 h1
  rw [this]; rfl
end Go.Proofs.Ytphjhlnjfcfdcaa
