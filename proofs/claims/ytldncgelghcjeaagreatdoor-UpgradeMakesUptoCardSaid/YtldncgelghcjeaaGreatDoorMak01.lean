/-
  States that came in, opened: where their rows lie; how great they are.
  States of version 2 that came in, opened: where their rows lie; how great they are.
  A state of version 1, as the document has it: the same texts and numbers, in a row of its own.
  A state of version 1 or of version 2, with where its rows lie; what a store into a state's box leaves as it is.
-/
import Derived.Test.YtldncgelghcjeaaGreatDoorCat05
import Derived.Deep.Slices
import Derived.SizedLaws
import Derived.ChangeSame
import Derived.ChangeOld
import Derived.Carry
import Derived.Test.YtldncgelghcjeaaGreatDoorCat23
import Derived.Test.YtldncgelghcjeaaGreatDoorUpd01
import Derived.Test.YtldncgelghcjeaaGreatDoorUpd04
import Derived.Test.YtldncgelghcjeaaGreatDoorCat02
set_option linter.unusedSimpArgs false
set_option linter.unusedVariables false
namespace Go.Proofs.YtldncgelghcjeaaGreatDoor.K
open Go.ChangeShapes Go.WideShapes Go.ChangeAt Go.RowKit Go.Deep
set_option maxRecDepth 100000

theorem weights_all {H : Type} {P : Program} {e : TypeId} {n : Nat} : ∀ {l : List (DataW H)} {d : DataW H}, d ∈ l → n ∈ d.weights P e → n ∈ DataW.weightsAll P e l
  | [], _, h, _ => by cases h
  | a :: l, d, h, hn => by
    simp only [DataW.weightsAll, List.mem_append]
    rcases List.mem_cons.1 h with rfl | h
    · exact .inl hn
    · exact .inr (weights_all h hn)
theorem sized_mem {H : Type} {P : Program} {ts : List TypeId} {ds : List (DataW H)} (h : (DataW.weightsEach P ts ds).all (· ≤ reachBytes) = true) {j : Nat} {t : TypeId} {d : DataW H} (ht : ts[j]? = some t) (hd : ds[j]? = some d) {n : Nat} (hn : n ∈ d.weights P t) : n ≤ 140737488351232 := by
  have := List.all_eq_true.1 h _ (DataW.weights_mem_each ht hd n hn)
  have h2 : n ≤ reachBytes := by simpa using this
  have h3 : reachBytes = 140737488351232 := by decide
  omega
theorem own_knob : ownKnob Tryz.prog.godebug = none := by kernel_rfl
theorem laidOut : laidOutB Tryz.prog = true := by kernel_rfl
theorem trod_low {H : Type} {enc : TypeId × Value → H} {W : World} {t : TypeId} {v : Value} {d : DataW H} {p : List MemPlace} (h : DataW.Trod enc Tryz.prog W 0 (fun _ => true) true t v d p) : ∀ x ∈ p, x.block < W.heap.size := by
  obtain ⟨m, hm⟩ := h
  exact DataW.trod_lt m _ _ _ hm
theorem bulk_one {H : Type} (d : DataW H) : 1 ≤ Rows.uptoBulk d := by
  cases d with
  | lit l => cases l <;> simp [Rows.uptoBulk]
  | nil => simp [Rows.uptoBulk]
  | ptr d => simp [Rows.uptoBulk]
  | slice elems spare => simp [Rows.uptoBulk]
  | agg parts => simp [Rows.uptoBulk]
  | iface t d => simp [Rows.uptoBulk]
  | map entries => simp [Rows.uptoBulk]
  | held h => simp [Rows.uptoBulk]
theorem bulk_part {H : Type} {d : DataW H} {l : List (DataW H)} (h : d ∈ l) : Rows.uptoBulk d ≤ Rows.uptoBulkAll l := by
  induction l with
  | nil => cases h
  | cons x r ih =>
    simp only [Rows.uptoBulkAll]
    cases List.mem_cons.1 h with
    | inl e => subst e; omega
    | inr e => have := ih e; omega
theorem bulk_len {H : Type} (l : List (DataW H)) : l.length ≤ Rows.uptoBulkAll l := by
  induction l with
  | nil => simp
  | cons x r ih => have := bulk_one x; simp only [Rows.uptoBulkAll, List.length_cons]; omega
/-- A slice's row, its elements read by 'each'. -/
theorem open_rows {H : Type} {enc : TypeId × Value → H} {W : World} {fuel : Nat} {α : Type} [Inhabited α] {t e k : Nat} (cell : α → List Value) (P : α → DataW H → Prop) (hk : ∀ y, (cell y).length = k) (hkp : 0 < k) (ht : Tryz.prog.underlying t = some (.slice e)) (hc : Tryz.prog.cellsOf e = k)
    (each : ∀ n cs' d pl, DataW.trod enc Tryz.prog W 0 (fun _ => true) true n e cs' = some (d, pl) → ∃ y, cs' = cell y ∧ P y d) {cs : List Value} {x : DataW H × List MemPlace} (h : DataW.trod enc Tryz.prog W 0 (fun _ => true) true fuel t cs = some x) :
    ∃ (l : List α) (a : Option Addr) (cap : Nat), cs = [.slice a l.length cap] ∧ RowAt W a (l.flatMap cell) ∧ (∀ y ∈ l, ∃ d, P y d ∧ Rows.uptoBulk d ≤ Rows.uptoBulk x.1 ∧ ∀ n, n ∈ d.weights Tryz.prog e → n ∈ x.1.weights Tryz.prog t) ∧ l.length ≤ Rows.uptoBulk x.1 ∧ l.length ≤ cap ∧ l.length ≤ maxLen := by
  rcases open_slice ht h with ⟨rfl, rfl⟩ | ⟨ad, len, cap, m, n, D, Pl, rfl, _, hlc, hcm, hm, rfl, hx⟩
  · exact ⟨[], none, 0, rfl, RowAt.nil _ _, (fun y h => absurd h List.not_mem_nil), Nat.zero_le _, Nat.zero_le _, Nat.zero_le _⟩
  · simp only [if_true] at hm
    rw [hm] at hx
    rw [hc] at hx
    have hlm := hlc
    have get : ∀ i, i < len → ∃ y : α, (∀ j v, (cell y)[j]? = some v → W.cell? ((ad.add (i * k)).add j) = some v) ∧ P y (D i) := fun i hi => by
      obtain ⟨cs', h1, h2⟩ := hx i (by omega)
      obtain ⟨_, hlen, hcell⟩ := World.cells?_some h1
      obtain ⟨y, rfl, hp⟩ := each _ _ _ _ h2
      refine ⟨y, fun j v hj => ?_, hp⟩
      have hj3 := (List.getElem?_eq_some_iff.1 hj).1
      rw [hcell j (by rw [← hk y]; exact hj3)]
      exact hj
    obtain ⟨q, hq⟩ := choose_lt get
    have hll : ((List.range len).map q).length = len := by simp
    refine ⟨(List.range len).map q, some ad, cap, by rw [hll], ?_, ?_, ?_, by rw [hll]; exact hlc, by rw [hll]; unfold maxLen at hcm ⊢; omega⟩
    · by_cases h0 : len = 0
      · subst h0; exact .nil _ _
      · obtain ⟨b, off, spot⟩ := ad
        have hc0 : ∃ v, (cell (q 0))[0]? = some v := ⟨_, List.getElem?_eq_getElem (by rw [hk]; exact hkp)⟩
        obtain ⟨v0, hv0⟩ := hc0
        obtain rfl : spot = none := by
          have := World.cell?_spot ((hq 0 (by omega)).1 0 v0 hv0)
          simpa [Addr.add] using this
        refine .inr ⟨b, off, rfl, fun j v hj => ?_⟩
        have hjl : j < len * k := by
          have := (List.getElem?_eq_some_iff.1 hj).1
          rw [flat_length cell k hk, hll] at this
          exact this
        have hi : j / k < len := Nat.div_lt_of_lt_mul (by rw [Nat.mul_comm]; exact hjl)
        have hr : j % k < k := Nat.mod_lt _ hkp
        have hjd : j / k * k + j % k = j := by rw [Nat.mul_comm]; exact Nat.div_add_mod j k
        have hg := flat_get cell k hk ((List.range len).map q) (j / k) (by rw [hll]; exact hi) (j % k) hr
        rw [hjd, hj] at hg
        have he : ((List.range len).map q)[j / k]'(by rw [hll]; exact hi) = q (j / k) := by simp
        rw [he] at hg
        have := (hq (j / k) hi).1 (j % k) v hg.symm
        rw [addr_add, addr_add, Nat.add_assoc, hjd] at this
        exact this
    · intro y hy
      obtain ⟨i, hi, rfl⟩ := List.mem_map.1 hy
      have hi' := List.mem_range.1 hi
      refine ⟨D i, (hq i hi').2, ?_, fun n hn => ?_⟩
      rotate_left
      · simp only [DataW.weights, ht, List.mem_cons, List.mem_append]
        exact .inr (.inl (weights_all (List.mem_map.2 ⟨i, List.mem_range.2 hi', rfl⟩) hn))
      have : D i ∈ (List.range len).map D := List.mem_map.2 ⟨i, hi, rfl⟩
      have h2 := bulk_part this
      simp only [Rows.uptoBulk]
      omega
    · rw [hll]
      have := bulk_len ((List.range len).map D)
      simp only [Rows.uptoBulk]
      rw [List.length_map, List.length_range] at this
      omega
theorem cells_str : Tryz.prog.cellsOf 9 = 1 := by kernel_rfl
theorem cells_u8 : Tryz.prog.cellsOf 5 = 1 := by kernel_rfl
theorem cells_u32 : Tryz.prog.cellsOf 60 = 1 := by kernel_rfl
theorem cells_pod1 : Tryz.prog.cellsOf 154 = 4 := by kernel_rfl
theorem cells_spod1 : Tryz.prog.cellsOf 61 = 1 := by kernel_rfl
theorem cells_state1 : Tryz.prog.cellsOf 63 = 2 := by kernel_rfl
theorem u8_of {v : Int} (h : (Lit.int .u8 v).wf = true) : 0 ≤ v ∧ v ≤ 255 := by
  simp [Lit.wf, IntKind.min, IntKind.max, IntKind.signed, IntKind.bits] at h; omega
theorem u32_of {v : Int} (h : (Lit.int .u32 v).wf = true) : 0 ≤ v ∧ v ≤ 4294967295 := by
  simp [Lit.wf, IntKind.min, IntKind.max, IntKind.signed, IntKind.bits] at h; omega
/-- What a pod's datum says of its size. -/
def PodD {H : Type} (p : P1) (d : DataW H) : Prop :=
  (∀ K, (∀ n, n ∈ d.weights Tryz.prog 154 → n ≤ K) → p.Fit K) ∧ (∀ K, Rows.uptoBulk d ≤ K → p.Fit K)
theorem open_pod1 {H : Type} {enc : TypeId × Value → H} {W : World} {fuel : Nat} {cs : List Value} {d : DataW H} {pl : List MemPlace} (h : DataW.trod enc Tryz.prog W 0 (fun _ => true) true fuel 154 cs = some (d, pl)) :
    ∃ p : P1, cs = p.cells ∧ PodD p d := by
  obtain ⟨xs, k, hk, hxy, hlen, hxl, hf⟩ := DataW.trod_struct Tryz.underlying154 h
  rw [cells_pod1] at hlen
  match xs, hxl, cs, hlen with
  | [y0, y1, y2, y3], _, [v0, v1, v2, v3], _ =>
    have g0 := hf 0 _ rfl
    have g1 := hf 1 _ rfl
    have g2 := hf 2 _ rfl
    have g3 := hf 3 _ rfl
    simp [cells_str, cells_u8] at g0 g1 g2 g3
    obtain ⟨k0, e0, f0, _⟩ := DataW.trod_string Tryz.underlying9 g0
    obtain ⟨k1, e1, f1, _⟩ := DataW.trod_string Tryz.underlying9 g1
    obtain ⟨k2, e2, f2, _⟩ := DataW.trod_string Tryz.underlying9 g2
    obtain ⟨k3, e3, f3, w3⟩ := DataW.trod_int Tryz.underlying5 g3
    simp only [List.cons.injEq, and_true] at e0 e1 e2 e3
    subst e0 e1 e2 e3
    simp only [Prod.mk.injEq] at hxy
    obtain ⟨b0, b1⟩ := u8_of w3
    refine ⟨⟨k0, k1, k2, k3⟩, rfl, fun K hK => ?_, fun K hK => ?_⟩
    · rw [hxy.1] at hK
      simp only [List.map_cons, List.map_nil, f0, f1, f2, f3] at hK
      have hw : ∀ n ∈ [k0.data.toList.length, k1.data.toList.length, k2.data.toList.length], n ≤ K := fun n hn => hK n (by
        simp [DataW.weights, Tryz.underlying154, DataW.weightsEach]
        simpa using hn)
      refine ⟨?_, ?_, ?_, b0, b1⟩
      · show k0.size ≤ K; rw [Lib.size_eq]; exact hw _ (by simp)
      · show k1.size ≤ K; rw [Lib.size_eq]; exact hw _ (by simp)
      · show k2.size ≤ K; rw [Lib.size_eq]; exact hw _ (by simp)
    · rw [hxy.1] at hK
      simp only [List.map_cons, List.map_nil, f0, f1, f2, f3, Rows.uptoBulk, Rows.uptoBulkAll] at hK
      refine ⟨?_, ?_, ?_, b0, b1⟩
      · show k0.size ≤ K; rw [Lib.size_eq]; omega
      · show k1.size ≤ K; rw [Lib.size_eq]; omega
      · show k2.size ≤ K; rw [Lib.size_eq]; omega
/-- What a state's datum says of it. -/
structure St1D {H : Type} (seq : Int) (l : List P1) (d : DataW H) : Prop where
  s0 : 0 ≤ seq
  s1 : seq ≤ 4294967295
  len : l.length ≤ maxLen
  wt : ∀ K, (∀ n, n ∈ d.weights Tryz.prog 63 → n ≤ K) → ∀ p ∈ l, p.Fit K
  bk : ∀ K, Rows.uptoBulk d ≤ K → l.length ≤ K ∧ ∀ p ∈ l, p.Fit K
instance : Inhabited P1 := ⟨⟨⟨#[]⟩, ⟨#[]⟩, ⟨#[]⟩, 0⟩⟩
theorem open_st1 {H : Type} {enc : TypeId × Value → H} {W : World} {fuel : Nat} {cs : List Value} {d : DataW H} {pl : List MemPlace} (h : DataW.trod enc Tryz.prog W 0 (fun _ => true) true fuel 63 cs = some (d, pl)) :
    ∃ (seq : Int) (l : List P1) (a : Option Addr) (c : Nat), cs = [.int .u32 seq, .slice a l.length c] ∧ RowAt W a (p1s l) ∧ St1D seq l d := by
  obtain ⟨xs, k, hk, hxy, hlen, hxl, hf⟩ := DataW.trod_struct Tryz.underlying63 h
  rw [cells_state1] at hlen
  match xs, hxl, cs, hlen with
  | [y0, y1], _, [v0, v1], _ =>
    have g0 := hf 0 _ rfl
    have g1 := hf 1 _ rfl
    simp [cells_u32, cells_spod1] at g0 g1
    obtain ⟨k0, e0, f0, w0⟩ := DataW.trod_int Tryz.underlying60 g0
    obtain ⟨l, a, cap, e1, r1, b1, n1, l1, m1⟩ := open_rows (α := P1) P1.cells (fun p d => PodD p d) (fun _ => rfl) (by decide) Tryz.underlying61 cells_pod1 (fun n cs' d pl h => open_pod1 h) g1
    simp only [List.cons.injEq, and_true] at e0 e1
    subst e0 e1
    simp only [Prod.mk.injEq] at hxy
    obtain ⟨b0, b00⟩ := u32_of w0
    refine ⟨k0, l, a, cap, rfl, r1, b0, b00, m1, fun K hK p hp => ?_, fun K hK => ⟨?_, fun p hp => ?_⟩⟩
    · rw [hxy.1] at hK
      simp only [List.map_cons, List.map_nil] at hK
      obtain ⟨d', h1, _, h3⟩ := b1 p hp
      refine h1.1 K (fun n hn => hK n ?_)
      simp only [DataW.weights, Tryz.underlying63]
      simp [DataW.weightsEach]
      exact .inr (h3 n hn)
    · rw [hxy.1] at hK
      simp only [List.map_cons, List.map_nil, Rows.uptoBulk, Rows.uptoBulkAll] at hK
      omega
    · rw [hxy.1] at hK
      simp only [List.map_cons, List.map_nil, Rows.uptoBulk, Rows.uptoBulkAll] at hK
      obtain ⟨d', h1, h2, _⟩ := b1 p hp
      exact h1.2 K (by omega)
/-- A state among the arguments. -/
theorem arg_st1 {H : Type} {enc : TypeId × Value → H} {W : World} {base : Nat} {v : Value} {d : DataW H} {p : List MemPlace} (ho : Value.okWide Tryz.prog W .any base 63 v) (h : DataW.Trod enc Tryz.prog W 0 (fun _ => true) true 63 v d p) :
    ∃ (seq : Int) (l : List P1) (a : Option Addr) (c : Nat), v = st1 seq a l.length c ∧ RowAt W a (p1s l) ∧ St1D seq l d := by
  obtain ⟨cs, rfl, hs⟩ := okWide_struct Tryz.underlying63 ho
  obtain ⟨f, g⟩ := h
  obtain ⟨seq, l, a, c, h1, h2, h3⟩ := open_st1 g
  refine ⟨seq, l, a, c, ?_, h2, h3⟩
  have : cs = #[.int .u32 seq, .slice a l.length c] := Array.toList_inj.1 h1
  rw [this]; rfl
end Go.Proofs.YtldncgelghcjeaaGreatDoor.K
namespace Go.Proofs.YtldncgelghcjeaaGreatDoor.K
open Go.ChangeShapes Go.WideShapes Go.ChangeAt Go.RowKit Go.Deep
set_option maxRecDepth 100000

theorem cells_u16 : Tryz.prog.cellsOf 155 = 1 := by kernel_rfl
theorem cells_u64b : Tryz.prog.cellsOf 22 = 1 := by kernel_rfl
theorem cells_cont2 : Tryz.prog.cellsOf 160 = 2 := by kernel_rfl
theorem cells_scont2 : Tryz.prog.cellsOf 156 = 1 := by kernel_rfl
theorem cells_pod2 : Tryz.prog.cellsOf 158 = 6 := by kernel_rfl
theorem cells_spod2 : Tryz.prog.cellsOf 64 = 1 := by kernel_rfl
theorem cells_state2 : Tryz.prog.cellsOf 66 = 2 := by kernel_rfl
theorem u16_of {v : Int} (h : (Lit.int .u16 v).wf = true) : 0 ≤ v ∧ v ≤ 65535 := by
  simp [Lit.wf, IntKind.min, IntKind.max, IntKind.signed, IntKind.bits] at h; omega
theorem u64_ofb {v : Int} (h : (Lit.int .u64 v).wf = true) : 0 ≤ v ∧ v ≤ 18446744073709551615 := by
  simp [Lit.wf, IntKind.min, IntKind.max, IntKind.signed, IntKind.bits] at h; omega
instance : Inhabited C2 := ⟨⟨⟨#[]⟩, ⟨#[]⟩⟩⟩
instance : Inhabited M2 := ⟨⟨⟨⟨#[]⟩, ⟨#[]⟩, ⟨#[]⟩, 0, 0, []⟩, none, 0⟩⟩
/-- What a container's datum says of its size. -/
def ContD {H : Type} (c : C2) (d : DataW H) : Prop :=
  (∀ K, (∀ n, n ∈ d.weights Tryz.prog 160 → n ≤ K) → c.name.size ≤ K ∧ c.image.size ≤ K) ∧ (∀ K, Rows.uptoBulk d ≤ K → c.name.size ≤ K ∧ c.image.size ≤ K)
theorem open_cont2 {H : Type} {enc : TypeId × Value → H} {W : World} {fuel : Nat} {cs : List Value} {d : DataW H} {pl : List MemPlace} (h : DataW.trod enc Tryz.prog W 0 (fun _ => true) true fuel 160 cs = some (d, pl)) :
    ∃ c : C2, cs = c.cells ∧ ContD c d := by
  obtain ⟨xs, k, hk, hxy, hlen, hxl, hf⟩ := DataW.trod_struct Tryz.underlying160 h
  rw [cells_cont2] at hlen
  match xs, hxl, cs, hlen with
  | [y0, y1], _, [v0, v1], _ =>
    have g0 := hf 0 _ rfl
    have g1 := hf 1 _ rfl
    simp [cells_str] at g0 g1
    obtain ⟨k0, e0, f0, _⟩ := DataW.trod_string Tryz.underlying9 g0
    obtain ⟨k1, e1, f1, _⟩ := DataW.trod_string Tryz.underlying9 g1
    simp only [List.cons.injEq, and_true] at e0 e1
    subst e0 e1
    simp only [Prod.mk.injEq] at hxy
    refine ⟨⟨k0, k1⟩, rfl, fun K hK => ?_, fun K hK => ?_⟩
    · rw [hxy.1] at hK
      simp only [List.map_cons, List.map_nil, f0, f1] at hK
      have hw : ∀ n ∈ [k0.data.toList.length, k1.data.toList.length], n ≤ K := fun n hn => hK n (by
        simp [DataW.weights, Tryz.underlying160, DataW.weightsEach]
        simpa using hn)
      exact ⟨by show k0.size ≤ K; rw [Lib.size_eq]; exact hw _ (by simp), by show k1.size ≤ K; rw [Lib.size_eq]; exact hw _ (by simp)⟩
    · rw [hxy.1] at hK
      simp only [List.map_cons, List.map_nil, f0, f1, Rows.uptoBulk, Rows.uptoBulkAll] at hK
      exact ⟨by show k0.size ≤ K; rw [Lib.size_eq]; omega, by show k1.size ≤ K; rw [Lib.size_eq]; omega⟩
/-- What a pod's datum says of it. -/
structure Pod2D {H : Type} (W : World) (m : M2) (d : DataW H) : Prop where
  ins : m.In W
  len : m.p.cs.length ≤ maxLen
  wt : ∀ K, (∀ n, n ∈ d.weights Tryz.prog 158 → n ≤ K) → m.p.Fit K
  bk : ∀ K, Rows.uptoBulk d ≤ K → m.p.Fit K ∧ m.p.cs.length ≤ K
theorem open_pod2 {H : Type} {enc : TypeId × Value → H} {W : World} {fuel : Nat} {cs : List Value} {d : DataW H} {pl : List MemPlace} (h : DataW.trod enc Tryz.prog W 0 (fun _ => true) true fuel 158 cs = some (d, pl)) :
    ∃ m : M2, cs = m.cells ∧ Pod2D W m d := by
  obtain ⟨xs, k, hk, hxy, hlen, hxl, hf⟩ := DataW.trod_struct Tryz.underlying158 h
  rw [cells_pod2] at hlen
  match xs, hxl, cs, hlen with
  | [y0, y1, y2, y3, y4, y5], _, [v0, v1, v2, v3, v4, v5], _ =>
    have g0 := hf 0 _ rfl
    have g1 := hf 1 _ rfl
    have g2 := hf 2 _ rfl
    have g3 := hf 3 _ rfl
    have g4 := hf 4 _ rfl
    have g5 := hf 5 _ rfl
    simp [cells_str, cells_u8, cells_u16, cells_scont2] at g0 g1 g2 g3 g4 g5
    obtain ⟨k0, e0, f0, _⟩ := DataW.trod_string Tryz.underlying9 g0
    obtain ⟨k1, e1, f1, _⟩ := DataW.trod_string Tryz.underlying9 g1
    obtain ⟨k2, e2, f2, _⟩ := DataW.trod_string Tryz.underlying9 g2
    obtain ⟨k3, e3, f3, w3⟩ := DataW.trod_int Tryz.underlying5 g3
    obtain ⟨k4, e4, f4, w4⟩ := DataW.trod_int Tryz.underlying155 g4
    obtain ⟨l, a, cap, e5, r5, q5, n5, l5, m5⟩ := open_rows (α := C2) C2.cells (fun p d => ContD p d) (fun _ => rfl) (by decide) Tryz.underlying156 cells_cont2 (fun n cs' d pl h => open_cont2 h) g5
    simp only [List.cons.injEq, and_true] at e0 e1 e2 e3 e4 e5
    subst e0 e1 e2 e3 e4 e5
    simp only [Prod.mk.injEq] at hxy
    obtain ⟨b0, b1⟩ := u8_of w3
    obtain ⟨b2, b3⟩ := u16_of w4
    refine ⟨⟨⟨k0, k1, k2, k3, k4, l⟩, a, cap⟩, rfl, ⟨r5, l5⟩, m5, fun K hK => ?_, fun K hK => ⟨?_, ?_⟩⟩
    · rw [hxy.1] at hK
      simp only [List.map_cons, List.map_nil, f0, f1, f2, f3, f4] at hK
      have hw : ∀ n ∈ [k0.data.toList.length, k1.data.toList.length, k2.data.toList.length], n ≤ K := fun n hn => hK n (by
        simp [DataW.weights, Tryz.underlying158, DataW.weightsEach]
        rcases (by simpa using hn : n = _ ∨ n = _ ∨ n = _) with h | h | h
        · exact .inl h
        · exact .inr (.inl h)
        · exact .inr (.inr (.inl h)))
      refine ⟨?_, ?_, ?_, b0, b1, b2, b3, fun c hc => ?_⟩
      · show k0.size ≤ K; rw [Lib.size_eq]; exact hw _ (by simp)
      · show k1.size ≤ K; rw [Lib.size_eq]; exact hw _ (by simp)
      · show k2.size ≤ K; rw [Lib.size_eq]; exact hw _ (by simp)
      · obtain ⟨d', h1, _, h3⟩ := q5 c hc
        refine h1.1 K (fun n hn => hK n ?_)
        simp only [DataW.weights, Tryz.underlying158]
        simp [DataW.weightsEach]
        exact .inr (.inr (.inr (.inr (.inr (h3 n hn)))))
    · rw [hxy.1] at hK
      simp only [List.map_cons, List.map_nil, f0, f1, f2, f3, f4, Rows.uptoBulk, Rows.uptoBulkAll] at hK
      refine ⟨?_, ?_, ?_, b0, b1, b2, b3, fun c hc => ?_⟩
      · show k0.size ≤ K; rw [Lib.size_eq]; omega
      · show k1.size ≤ K; rw [Lib.size_eq]; omega
      · show k2.size ≤ K; rw [Lib.size_eq]; omega
      · obtain ⟨d', h1, h2, _⟩ := q5 c hc
        exact h1.2 K (by omega)
    · rw [hxy.1] at hK
      simp only [List.map_cons, List.map_nil, f0, f1, f2, f3, f4, Rows.uptoBulk, Rows.uptoBulkAll] at hK
      show l.length ≤ K
      omega
/-- What a state's datum says of it. -/
structure St2D {H : Type} (seq : Int) (l : List M2) (d : DataW H) : Prop where
  s0 : 0 ≤ seq
  s1 : seq ≤ 18446744073709551615
  len : l.length ≤ maxLen
  lens : ∀ m ∈ l, m.p.cs.length ≤ maxLen
  wt : ∀ K, (∀ n, n ∈ d.weights Tryz.prog 66 → n ≤ K) → ∀ m ∈ l, m.p.Fit K
  bk : ∀ K, Rows.uptoBulk d ≤ K → l.length ≤ K ∧ ∀ m ∈ l, m.p.Fit K ∧ m.p.cs.length ≤ K
theorem open_st2 {H : Type} {enc : TypeId × Value → H} {W : World} {fuel : Nat} {cs : List Value} {d : DataW H} {pl : List MemPlace} (h : DataW.trod enc Tryz.prog W 0 (fun _ => true) true fuel 66 cs = some (d, pl)) :
    ∃ (seq : Int) (l : List M2) (a : Option Addr) (c : Nat), cs = [.int .u64 seq, .slice a l.length c] ∧ Row2 W a l ∧ St2D seq l d := by
  obtain ⟨xs, k, hk, hxy, hlen, hxl, hf⟩ := DataW.trod_struct Tryz.underlying66 h
  rw [cells_state2] at hlen
  match xs, hxl, cs, hlen with
  | [y0, y1], _, [v0, v1], _ =>
    have g0 := hf 0 _ rfl
    have g1 := hf 1 _ rfl
    simp [cells_u64b, cells_spod2] at g0 g1
    obtain ⟨k0, e0, f0, w0⟩ := DataW.trod_int Tryz.underlying22 g0
    obtain ⟨l, a, cap, e1, r1, b1, n1, l1, m1⟩ := open_rows (α := M2) M2.cells (fun p d => Pod2D W p d) (fun _ => rfl) (by decide) Tryz.underlying64 cells_pod2 (fun n cs' d pl h => open_pod2 h) g1
    simp only [List.cons.injEq, and_true] at e0 e1
    subst e0 e1
    simp only [Prod.mk.injEq] at hxy
    obtain ⟨b0, b00⟩ := u64_ofb w0
    refine ⟨k0, l, a, cap, rfl, ⟨r1, fun m hm => ?_⟩, b0, b00, m1, fun m hm => ?_, fun K hK p hp => ?_, fun K hK => ⟨?_, fun p hp => ?_⟩⟩
    · obtain ⟨d', h1, _⟩ := b1 m hm
      exact h1.ins
    · obtain ⟨d', h1, _⟩ := b1 m hm
      exact h1.len
    · rw [hxy.1] at hK
      simp only [List.map_cons, List.map_nil] at hK
      obtain ⟨d', h1, _, h3⟩ := b1 p hp
      refine h1.wt K (fun n hn => hK n ?_)
      simp only [DataW.weights, Tryz.underlying66]
      simp [DataW.weightsEach]
      exact .inr (h3 n hn)
    · rw [hxy.1] at hK
      simp only [List.map_cons, List.map_nil, Rows.uptoBulk, Rows.uptoBulkAll] at hK
      omega
    · rw [hxy.1] at hK
      simp only [List.map_cons, List.map_nil, Rows.uptoBulk, Rows.uptoBulkAll] at hK
      obtain ⟨d', h1, h2, _⟩ := b1 p hp
      exact h1.bk K (by omega)
/-- A state among the arguments. -/
theorem arg_st2 {H : Type} {enc : TypeId × Value → H} {W : World} {base : Nat} {v : Value} {d : DataW H} {p : List MemPlace} (ho : Value.okWide Tryz.prog W .any base 66 v) (h : DataW.Trod enc Tryz.prog W 0 (fun _ => true) true 66 v d p) :
    ∃ (seq : Int) (l : List M2) (a : Option Addr) (c : Nat), v = st2 seq a l.length c ∧ Row2 W a l ∧ St2D seq l d := by
  obtain ⟨cs, rfl, hs⟩ := okWide_struct Tryz.underlying66 ho
  obtain ⟨f, g⟩ := h
  obtain ⟨seq, l, a, c, h1, h2, h3⟩ := open_st2 g
  refine ⟨seq, l, a, c, ?_, h2, h3⟩
  have : cs = #[.int .u64 seq, .slice a l.length c] := Array.toList_inj.1 h1
  rw [this]; rfl
end Go.Proofs.YtldncgelghcjeaaGreatDoor.K
namespace Go.Proofs.YtldncgelghcjeaaGreatDoor.K
open Go.ChangeShapes Go.WideShapes Go.ChangeAt Go.RowKit
set_option maxRecDepth 100000

/-- What Of answers. -/
def OfIs (seq : Int) (l : List P1) (w : World) (r : Ending) (w' : World) : Prop :=
  ∃ a c, r = .returned (st1 seq a l.length c) ∧ w'.ownsRow w.heap.size 161 4 (.slice a l.length c) l.length (p1s l) ∧ Fresh w w'
set_option maxHeartbeats 4000000 in
theorem of_any (seq : Int) (a : Option Addr) (l : List P1) (c : Nat) (w : World) (h : RowAt w a (p1s l)) (hl : l.length ≤ 4000000) :
    Calls Tryz.prog 27 #[st1 seq a l.length c] w (OfIs seq l w) := by
  have HROW := Lib.hid h
  obtain ⟨i0, hi, hz0, hz1, hz2⟩ := info_parts info2
  dsimp only [st1]
  clear h
  unfold OfIs
  have hA := at_new ((w.alloc (.cells #[.int .u32 seq, .slice a l.length c] 63)).alloc (.cells #[.int .u32 0, .slice none 0 0] 71)) (.cells #[.int .u32 seq, .slice none 0 0] 71)
  rw [World.size_alloc, World.size_alloc] at hA
  have hB := at_new (w.alloc (.cells #[.int .u32 seq, .slice a l.length c] 63)) (.cells #[.int .u32 0, .slice none 0 0] 71)
  rw [World.size_alloc] at hB
  have hB := at_alloc (p := .cells #[.int .u32 seq, .slice none 0 0] 71) hB
  have HF0 := Lib.hid ((((Fresh.refl w).alloc (.cells #[.int .u32 seq, .slice a l.length c] 63)).alloc (.cells #[.int .u32 0, .slice none 0 0] 71)).alloc (.cells #[.int .u32 seq, .slice none 0 0] 71))
  have HA := Lib.hid hA
  have HB := Lib.hid hB
  clear hA hB
  go_enter Tryz.func27, Tryz.ntmps27
  go_wp2
  generalize ((w.alloc (.cells #[.int .u32 seq, .slice a l.length c] 63)).alloc (.cells #[.int .u32 0, .slice none 0 0] 71)).alloc (.cells #[.int .u32 seq, .slice none 0 0] 71) = W0 at *
  obtain ⟨b, hb⟩ : ∃ b, b = w.heap.size := ⟨_, rfl⟩
  have HBW := Lib.hid hb
  rw [← hb] at HA HB ⊢
  clear hb
  go_loopw [12] (fun a12 wr => ∃ (k : Nat) (o : Option Addr) (c : Nat), a12 = .int .i64 (k : Int) ∧ k ≤ l.length ∧ Hid (wr.heap[b + 1]? = some (.cells #[.int .u32 0, .slice none 0 0] 71)) ∧ Hid (wr.heap[b + 2]? = some (.cells #[.int .u32 seq, .slice o k c] 71)) ∧
    Hid (wr.ownsRow (b + 3) 161 4 (.slice o k c) k (p1s (l.take k))) ∧ Hid (Fresh w wr)) (fun a12 _ => l.length - (intOf a12).toNat)
  case atStart => exact ⟨0, none, 0, rfl, Nat.zero_le _, HB.out, HA.out, World.ownsRow_nil _ _ _ _, HF0.out⟩
  case round =>
    clear HA HB
    obtain ⟨k, o, c2, rfl, hk, HB1, HB2, HOW, HF⟩ := hrel
    by_cases hlt : k < l.length
    · obtain ⟨g, o1, rfl, hc⟩ := p1_form (HROW.out.move HF.out) hlt
      obtain ⟨c0, c1, c2', c3⟩ := hc k hlt
      have HTK : Hid (p1s (l.take (k + 1)) = p1s (l.take k) ++ [.string l[k].file, .string l[k].name, .string l[k].image, .int .u8 l[k].r]) := by rw [Hid, List.take_succ_eq_append_getElem hlt, p1s_snoc]
      have hsz3 : b + 2 < wr.heap.size := lt_of_at HB2.out
      clear hc
      generalize l[k] = p at *
      obtain ⟨s0, s1, s2, n3⟩ := p
      dsimp only at *
      obtain ⟨q0, q1, qf⟩ := st1_box HB2.out
      have f1 := qf 1
      clear qf
      have HLT : Hid (∀ g, (Value.slice o k c2).ownBlock = some g → b + 3 ≤ g) := fun g e => (World.ownsRow.lt HOW.out g e).1
      have HN : Hid (∀ j u, [Value.string s0, .string s1, .string s2, .int .u8 n3][j]? = some u → ((wr.alloc (.cells #[.string s0, .string s1, .string s2, .int .u8 n3] 154)).alloc (.cells #[.string s0, .string s1, .string s2, .int .u8 n3] 161)).cell? ((⟨wr.heap.size + 1, 0, none⟩ : Addr).add j) = some u) := by
        have := news7 (wr.alloc (.cells #[.string s0, .string s1, .string s2, .int .u8 n3] 154)) 161 [.string s0, .string s1, .string s2, .int .u8 n3]
        rw [World.size_alloc] at this
        exact this
      go_wp2_with (at_builtin; refine Hid.out ?_)
      all_goals try (exfalso; omega)
      refine Lib.hid ?_
      refine wpList_append_own _ rfl _ _ 69 rfl (b + 3) 161 i0 (.agg #[.string ⟨#[]⟩, .string ⟨#[]⟩, .string ⟨#[]⟩, .int .u8 0]) 4 56 Tryz.underlying69 hi hz0 hz1 hz2 rfl (by decide) _ k _ rfl (World.ownsRow.alloc (World.ownsRow.alloc HOW.out _) _) ⟨wr.heap.size + 1, 0, none⟩ 1 1 [.string s0, .string s1, .string s2, .int .u8 n3] rfl rfl HN.out (by simp [Value.oneCell']) (by unfold maxLen; omega) (by omega) (by rw [World.size_alloc, World.size_alloc]; omega) ?_
      intro v' w3 hown' hgrow _
      obtain ⟨g', cap', rfl⟩ := ownsRow_succ hown'
      have hb2 := (hgrow.block (b + 2) (by rw [World.size_alloc, World.size_alloc]; omega) (fun e => by have := HLT.out (b + 2) e.symm; omega)).trans (at_alloc (at_alloc HB2.out))
      have hb1 := (hgrow.block (b + 1) (by rw [World.size_alloc, World.size_alloc]; omega) (fun e => by have := HLT.out (b + 1) e.symm; omega)).trans (at_alloc (at_alloc HB1.out))
      have HOWN := Lib.hid hown'
      have HB1r := Lib.hid hb1
      have HB2r := Lib.hid hb2
      have HFR := Lib.hid (((HF.out.alloc _).alloc _).grown hgrow (fun g e => by have := HLT.out g e; have := HBW.out; omega))
      obtain ⟨k0, k1, kf⟩ := st1_box hb2
      have kf1 := kf 1
      clear hown' hgrow hb1 hb2 c0 c1 c2' c3 q0 q1 f1 kf
      go_wp2
      go_roundw
      case rel =>
        refine ⟨k + 1, some ⟨g', 0, none⟩, cap', by simp, by omega, at_off HB1r.out (by omega) _, at_set HB2r.out 1 _, ?_, ?_⟩
        · rw [HTK.out]
          exact own_set (p := ⟨b + 2, 1, none⟩) HOWN.out (by show b + 2 < b + 3; omega) (.slice (some ⟨g', 0, none⟩) (k + 1) cap')
        · exact HFR.out.setCell (p := ⟨b + 2, 1, none⟩) (by have := HBW.out; show _ ≤ b + 2; omega) _
      case measure => simp [intOf]; omega
    · obtain rfl : k = l.length := by omega
      obtain ⟨p0, p1, _⟩ := st1_box HB2.out
      obtain ⟨q0, q1, hfz⟩ := st1_box HB1.out
      have f0 := hfz 0
      have f1 := hfz 1
      clear hfz
      go_wp2
      all_goals try (exfalso; omega)
      refine bodyPost_ret (v := st1 seq o l.length c2) (by simp [results, Tryz.f27, go_sem, st1, *]) rfl ⟨o, c2, rfl, ?_, ?_⟩
      · have hown := HOW.out
        rw [List.take_length] at hown
        refine World.ownsRow.mono (base := b + 3) ?_ (by have := HBW.out; omega)
        exact own_set (p := ⟨b + 1, 1, none⟩) (own_set (p := ⟨b + 1, 0, none⟩) hown (by show b + 1 < b + 3; omega) _) (by show b + 1 < b + 3; omega) _
      · exact (HF.out.setCell (p := ⟨b + 1, 0, none⟩) (by have := HBW.out; show _ ≤ b + 1; omega) _).setCell (p := ⟨b + 1, 1, none⟩) (by have := HBW.out; show _ ≤ b + 1; omega) _
end Go.Proofs.YtldncgelghcjeaaGreatDoor.K
namespace Go.Proofs.YtldncgelghcjeaaGreatDoor.K
open Go.ChangeShapes Go.WideShapes Go.ChangeAt Go.RowKit

structure SMU where
  one : Bool
  seq : Int
  a : Option Addr
  l1 : List P1
  l2 : List P2
  c : Nat
def SMU.k (p : SMU) : IntKind := if p.one = true then .u32 else .u64
def SMU.len (p : SMU) : Nat := if p.one = true then p.l1.length else p.l2.length
theorem SMU.kne (p : SMU) : p.k ≠ .i64 := by
  unfold SMU.k
  split <;> decide
def SMU.l (p : SMU) : Bool × List P1 × List P2 := (p.one, p.l1, p.l2)
def SMU.val (p : SMU) : Value := .agg #[.int p.k p.seq, .slice p.a p.len p.c]
abbrev SMU.obj (p : SMU) (ty : Nat) : Obj := .cells #[.int p.k p.seq, .slice p.a p.len p.c] ty
def SMU.AtA (p : SMU) (w : World) : Prop := p.one = true ∧ RowAt w p.a (p1s p.l1) ∧ p.l1.length ≤ 1048576
def SMU.AtB (p : SMU) (w : World) : Prop := p.one = false ∧ AtP p.l2 w p.a ∧ p.l2.length ≤ 1048576 ∧ ∀ x ∈ p.l2, x.cs.length ≤ 1048576
def SMU.Own (p : SMU) (W : World) (_ : Nat) : Prop := (p.one = true → RowAt W p.a (p1s p.l1)) ∧ (p.one = false → AtP p.l2 W p.a)
theorem ownU_fresh {p : SMU} {W W' : World} {B : Nat} (h : p.Own W B) (f : Fresh W W') : p.Own W' B := ⟨fun e => (h.1 e).move f, fun e => (h.2 e).move f⟩
theorem row_boxk {W : World} {b : Option Addr} {cells : List Value} (h : RowAt W b cells) {z n c t : Nat} {k : IntKind} {s : Int} {a : Option Addr} {fz : Nat × Nat} (hz : W.heap[z]? = some (.cells #[.int k s, .slice a n c] t fz)) (ho : ∀ v, cells[0]? = some v → ∃ s, v = .string s) (i : Nat) (u : Value) : RowAt (W.setCell ⟨z, i, none⟩ u) b cells := by
  by_cases hc : cells = []
  · exact .inl hc
  rcases h with h | ⟨g, o, e, h⟩
  · exact .inl h
  obtain ⟨v, r, rfl⟩ : ∃ v r, cells = v :: r := by
    cases cells with
    | nil => exact absurd rfl hc
    | cons v r => exact ⟨v, r, rfl⟩
  have h0 := h 0 v rfl
  have hne : g ≠ z := fun e2 => by
    subst e2
    obtain ⟨x, hx⟩ := ho v rfl
    simp only [World.cell?, hz] at h0
    rcases o with _ | _ | o
    · simp at h0
      subst h0
      simp at hx
    · simp at h0
      subst h0
      simp at hx
    · simp at h0
  exact RowAt.set (.inr ⟨g, o, e, h⟩) (fun ad e2 => by
    rw [e] at e2
    cases e2
    exact hne) u
theorem str_p1 : ∀ (D : List P1) v, (p1s D)[0]? = some v → ∃ s, v = .string s
  | [], v, h => by simp [p1s] at h
  | x :: D, v, h => by simp [p1s, P1.cells] at h; exact ⟨_, h.symm⟩
theorem str_m2 : ∀ (D : List M2) v, (m2s D)[0]? = some v → ∃ s, v = .string s
  | [], v, h => by simp [m2s] at h
  | x :: D, v, h => by simp [m2s, M2.cells] at h; exact ⟨_, h.symm⟩
theorem str_c2 : ∀ (D : List C2) v, (c2s D)[0]? = some v → ∃ s, v = .string s
  | [], v, h => by simp [c2s] at h
  | x :: D, v, h => by simp [c2s, C2.cells] at h; exact ⟨_, h.symm⟩
theorem ownU_set {p : SMU} {W : World} {B z n c t : Nat} {k : IntKind} {s : Int} {a : Option Addr} {fz : Nat × Nat} (h : p.Own W B) (_ : k ≠ .i64) (hz : W.heap[z]? = some (.cells #[.int k s, .slice a n c] t fz)) (i : Nat) (u : Value) : p.Own (W.setCell ⟨z, i, none⟩ u) B := by
  refine ⟨fun e => row_boxk (h.1 e) hz (str_p1 _) i u, fun e => ?_⟩
  obtain ⟨D, h1, h2, h3⟩ := h.2 e
  refine ⟨D, h1, row_boxk h2 hz (str_m2 D) i u, fun x hx => ?_⟩
  have k := h3 x hx
  exact ⟨row_boxk k.1 hz (str_c2 _) i u, k.2⟩
theorem ofA_own (p : SMU) (w0 W : World) (h : p.AtA w0) (f : Fresh w0 W) : Calls Tryz.prog 27 #[p.val] W fun e V => ∃ x : SMU, e = .returned x.val ∧ (x.seq = p.seq ∧ x.l = p.l) ∧ x.Own V W.heap.size ∧ Fresh W V := by
  obtain ⟨one, seq, a, l1, l2, c⟩ := p
  obtain ⟨h1, h2, h3⟩ := h
  dsimp only at h1 h2 h3
  subst h1
  refine Calls.mono (of_any seq a l1 c W (h2.move f) (by omega)) ?_
  rintro e V ⟨a', c', rfl, e1, e2⟩
  exact ⟨⟨true, seq, a', l1, l2, c'⟩, rfl, ⟨rfl, rfl⟩, ⟨fun _ => RowAt.owns e1, fun e => (by cases e)⟩, e2⟩
theorem ofB_own (p : SMU) (w0 W : World) (h : p.AtB w0) (f : Fresh w0 W) : Calls Tryz.prog 28 #[p.val] W fun e V => ∃ x : SMU, e = .returned x.val ∧ (x.seq = p.seq ∧ x.l = p.l) ∧ x.Own V W.heap.size ∧ Fresh W V := by
  obtain ⟨one, seq, a, l1, l2, c⟩ := p
  obtain ⟨h1, h2, h3, h4⟩ := h
  dsimp only at h1 h2 h3 h4
  subst h1
  refine Calls.mono (of2_at seq a l2 c W (h2.move f) (by omega) (fun x hx => Nat.le_trans (h4 x hx) (by decide))) ?_
  rintro e V ⟨a', c', rfl, e1, e2⟩
  exact ⟨⟨false, seq, a', l1, l2, c'⟩, rfl, ⟨rfl, rfl⟩, ⟨fun e => (by cases e), fun _ => e1⟩, e2⟩
end Go.Proofs.YtldncgelghcjeaaGreatDoor.K
