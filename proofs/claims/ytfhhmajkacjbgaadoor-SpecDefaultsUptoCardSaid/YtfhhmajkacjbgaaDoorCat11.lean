/-
  PROVED: for every pod whose reading holds at most 1048576 values and letters the given statement SpecDefaults returns true, where the library's two UTF-8 tables read as the program's text lays them (the card ties that); no other condition.
  A pod that came in, opened: where its rows lie; how great it is.
  From the walks of SpecChecks and SpecDefaults to their rows and cards (of what is of bulk at most 1048576): the walks stand here as hypotheses.
  bosunlaw14.SpecDefaults, walked.
  From the walk of SpecDefaults to its row and card (of what is of bulk at most 1048576): the walk stands here as a hypothesis.
-/
import Derived.Test.YtfhhmajkacjbgaaDoorCat01
import Derived.Deep.Slices
import Derived.SizedLaws
import Derived.ChangeSame
import Derived.Test.YtfhhmajkacjbgaaDoorCards
import Derived.Test.YtfhhmajkacjbgaaDoorTie
import Derived.Test.YtfhhmajkacjbgaaDoorCat05
import Derived.Lib.LaidIn
import Derived.Lib.LaidU8T
import Derived.Deep.DeepHandedRow
import Derived.Deep.DeepWitnessRowRef
import Derived.SevenTiedAt
import Derived.Carry
import Derived.ChangeOld
import Derived.Test.YtfhhmajkacjbgaaDoorCat10
namespace Go.Proofs.YtfhhmajkacjbgaaDoor
open Go.ChangeShapes Go.WideShapes Go.ChangeAt Go.RowKit Go.Deep

theorem bulk_one {H : Type} (d : DataW H) : 1 ≤ Rows.uptoBulk d := by
  cases d with
  | lit l => cases l <;> simp [Rows.uptoBulk]
  | nil => simp [Rows.uptoBulk]
  | ptr d => simp [Rows.uptoBulk]
  | slice elems spare => simp [Rows.uptoBulk]
  | agg parts => simp [Rows.uptoBulk]
  | iface t d => simp [Rows.uptoBulk]
  | map entries => simp [Rows.uptoBulk]
  | held h => simp [Rows.uptoBulk]
theorem bulk_part {H : Type} {d : DataW H} {l : List (DataW H)} (h : d ∈ l) : Rows.uptoBulk d ≤ Rows.uptoBulkAll l := by
  induction l with
  | nil => cases h
  | cons x r ih =>
    simp only [Rows.uptoBulkAll]
    cases List.mem_cons.1 h with
    | inl e => subst e; omega
    | inr e => have := ih e; omega
theorem bulk_len {H : Type} (l : List (DataW H)) : l.length ≤ Rows.uptoBulkAll l := by
  induction l with
  | nil => simp
  | cons x r ih => have := bulk_one x; simp only [Rows.uptoBulkAll, List.length_cons]; omega
theorem cells_int : Tryd.prog.cellsOf 3 = 1 := by kernel_rfl
theorem cells_int64 : Tryd.prog.cellsOf 2 = 1 := by kernel_rfl
theorem cells_bool : Tryd.prog.cellsOf 4 = 1 := by kernel_rfl
theorem cells_str : Tryd.prog.cellsOf 9 = 1 := by kernel_rfl
theorem cells_res : Tryd.prog.cellsOf 22 = 1 := by kernel_rfl
theorem cells_pro : Tryd.prog.cellsOf 41 = 1 := by kernel_rfl
theorem cells_port : Tryd.prog.cellsOf 55 = 2 := by kernel_rfl
theorem cells_env : Tryd.prog.cellsOf 64 = 2 := by kernel_rfl
theorem cells_cont : Tryd.prog.cellsOf 53 = 7 := by kernel_rfl
theorem cells_pod : Tryd.prog.cellsOf 25 = 6 := by kernel_rfl
theorem cells_sstr : Tryd.prog.cellsOf 45 = 1 := by kernel_rfl
theorem cells_sport : Tryd.prog.cellsOf 50 = 1 := by kernel_rfl
theorem cells_senv : Tryd.prog.cellsOf 51 = 1 := by kernel_rfl
theorem cells_scont : Tryd.prog.cellsOf 23 = 1 := by kernel_rfl
/-- A slice's row, its elements read by 'each'. -/
theorem open_rows {H : Type} {enc : TypeId × Value → H} {W : World} {fuel : Nat} {α : Type} [Inhabited α] {t e k : Nat} (cell : α → List Value) (P : α → DataW H → Prop) (hk : ∀ y, (cell y).length = k) (hkp : 0 < k) (ht : Tryd.prog.underlying t = some (.slice e)) (hc : Tryd.prog.cellsOf e = k)
    (each : ∀ n cs' d pl, DataW.trod enc Tryd.prog W 0 (fun _ => true) true n e cs' = some (d, pl) → ∃ y, cs' = cell y ∧ P y d) {cs : List Value} {x : DataW H × List MemPlace} (h : DataW.trod enc Tryd.prog W 0 (fun _ => true) true fuel t cs = some x) :
    ∃ (l : List α) (a : Option Addr) (cap : Nat), cs = [.slice a l.length cap] ∧ RowAt W a (l.flatMap cell) ∧ (∀ y ∈ l, ∃ d, P y d ∧ Rows.uptoBulk d ≤ Rows.uptoBulk x.1) ∧ l.length ≤ Rows.uptoBulk x.1 ∧ l.length ≤ cap := by
  rcases open_slice ht h with ⟨rfl, rfl⟩ | ⟨ad, len, cap, m, n, D, Pl, rfl, _, hlc, hcm, hm, rfl, hx⟩
  · exact ⟨[], none, 0, rfl, RowAt.nil _ _, (fun y h => absurd h List.not_mem_nil), Nat.zero_le _, Nat.zero_le _⟩
  · simp only [if_true] at hm
    rw [hm] at hx
    rw [hc] at hx
    have hlm := hlc
    have get : ∀ i, i < len → ∃ y : α, (∀ j v, (cell y)[j]? = some v → W.cell? ((ad.add (i * k)).add j) = some v) ∧ P y (D i) := fun i hi => by
      obtain ⟨cs', h1, h2⟩ := hx i (by omega)
      obtain ⟨_, hlen, hcell⟩ := World.cells?_some h1
      obtain ⟨y, rfl, hp⟩ := each _ _ _ _ h2
      refine ⟨y, fun j v hj => ?_, hp⟩
      have hj3 := (List.getElem?_eq_some_iff.1 hj).1
      rw [hcell j (by rw [← hk y]; exact hj3)]
      exact hj
    obtain ⟨q, hq⟩ := choose_lt get
    have hll : ((List.range len).map q).length = len := by simp
    refine ⟨(List.range len).map q, some ad, cap, by rw [hll], ?_, ?_, ?_, by rw [hll]; exact hlc⟩
    · by_cases h0 : len = 0
      · subst h0; exact .nil _ _
      · obtain ⟨b, off, spot⟩ := ad
        have hc0 : ∃ v, (cell (q 0))[0]? = some v := ⟨_, List.getElem?_eq_getElem (by rw [hk]; exact hkp)⟩
        obtain ⟨v0, hv0⟩ := hc0
        obtain rfl : spot = none := by
          have := World.cell?_spot ((hq 0 (by omega)).1 0 v0 hv0)
          simpa [Addr.add] using this
        refine .inr ⟨b, off, rfl, fun j v hj => ?_⟩
        have hjl : j < len * k := by
          have := (List.getElem?_eq_some_iff.1 hj).1
          rw [flat_length cell k hk, hll] at this
          exact this
        have hi : j / k < len := Nat.div_lt_of_lt_mul (by rw [Nat.mul_comm]; exact hjl)
        have hr : j % k < k := Nat.mod_lt _ hkp
        have hjd : j / k * k + j % k = j := by rw [Nat.mul_comm]; exact Nat.div_add_mod j k
        have hg := flat_get cell k hk ((List.range len).map q) (j / k) (by rw [hll]; exact hi) (j % k) hr
        rw [hjd, hj] at hg
        have he : ((List.range len).map q)[j / k]'(by rw [hll]; exact hi) = q (j / k) := by simp
        rw [he] at hg
        have := (hq (j / k) hi).1 (j % k) v hg.symm
        rw [addr_add, addr_add, Nat.add_assoc, hjd] at this
        exact this
    · intro y hy
      obtain ⟨i, hi, rfl⟩ := List.mem_map.1 hy
      have hi' := List.mem_range.1 hi
      refine ⟨D i, (hq i hi').2, ?_⟩
      have : D i ∈ (List.range len).map D := List.mem_map.2 ⟨i, hi, rfl⟩
      have h2 := bulk_part this
      simp only [Rows.uptoBulk]
      omega
    · rw [hll]
      have := bulk_len ((List.range len).map D)
      simp only [Rows.uptoBulk]
      rw [List.length_map, List.length_range] at this
      omega
theorem open_texts {H : Type} {enc : TypeId × Value → H} {W : World} {fuel : Nat} {cs : List Value} {x : DataW H × List MemPlace} (h : DataW.trod enc Tryd.prog W 0 (fun _ => true) true fuel 45 cs = some x) :
    ∃ (l : List ByteArray) (a : Option Addr) (cap : Nat), cs = [.slice a l.length cap] ∧ RowAt W a (tcells l) ∧ (∀ s ∈ l, s.size ≤ Rows.uptoBulk x.1) ∧ l.length ≤ Rows.uptoBulk x.1 := by
  obtain ⟨l, a, cap, h1, h2, h3, h4, _⟩ := open_rows (α := ByteArray) tcell (fun s d => d = .lit (.string s.data.toList)) (fun _ => rfl) (by decide) Tryd.underlying45 cells_str (fun n cs' d pl h => by
    obtain ⟨s, e1, e2, _⟩ := DataW.trod_string Tryd.underlying9 h
    simp only [Prod.mk.injEq] at e2
    exact ⟨s, e1, e2.1⟩) h
  refine ⟨l, a, cap, h1, h2, fun s hs => ?_, h4⟩
  obtain ⟨d, rfl, hd⟩ := h3 s hs
  simp [Rows.uptoBulk] at hd
  omega
instance : Inhabited (Int × Int) := ⟨(0, 0)⟩
set_option maxRecDepth 100000 in
theorem open_ports {H : Type} {enc : TypeId × Value → H} {W : World} {fuel : Nat} {cs : List Value} {x : DataW H × List MemPlace} (h : DataW.trod enc Tryd.prog W 0 (fun _ => true) true fuel 50 cs = some x) :
    ∃ (l : List (Int × Int)) (a : Option Addr) (cap : Nat), cs = [.slice a l.length cap] ∧ RowAt W a (pcells l) ∧ (∀ p ∈ l, (Lit.int .i64 p.1).wf = true ∧ (Lit.int .i64 p.2).wf = true) ∧ l.length ≤ Rows.uptoBulk x.1 ∧ l.length ≤ cap := by
  obtain ⟨l, a, cap, h1, h2, h3, h4, h5⟩ := open_rows (α := Int × Int) pcell (fun p _ => (Lit.int .i64 p.1).wf = true ∧ (Lit.int .i64 p.2).wf = true) (fun _ => rfl) (by decide) Tryd.underlying50 cells_port (fun n cs' d pl h => by
    obtain ⟨xs, k, hk, hxy, hlen, hxl, hf⟩ := DataW.trod_struct Tryd.underlying55 h
    rw [cells_port] at hlen
    match xs, hxl, cs', hlen with
    | [y0, y1], _, [v0, v1], _ =>
      have g0 := hf 0 _ rfl
      have g1 := hf 1 _ rfl
      simp [cells_int64, cells_pro] at g0 g1
      obtain ⟨k0, e0, f0, w0⟩ := DataW.trod_int Tryd.underlying2 g0
      obtain ⟨k1, e1, f1, w1⟩ := DataW.trod_int Tryd.underlying41 g1
      simp only [List.cons.injEq, and_true] at e0 e1
      subst e0 e1
      exact ⟨(k0, k1), rfl, w0, w1⟩) h
  exact ⟨l, a, cap, h1, h2, fun p hp => (h3 p hp).choose_spec.1, h4, h5⟩
set_option maxRecDepth 100000 in
theorem open_envs {H : Type} {enc : TypeId × Value → H} {W : World} {fuel : Nat} {cs : List Value} {x : DataW H × List MemPlace} (h : DataW.trod enc Tryd.prog W 0 (fun _ => true) true fuel 51 cs = some x) :
    ∃ (l : List (ByteArray × ByteArray)) (a : Option Addr) (cap : Nat), cs = [.slice a l.length cap] ∧ RowAt W a (ecells l) ∧ (∀ p ∈ l, p.1.size ≤ Rows.uptoBulk x.1 ∧ p.2.size ≤ Rows.uptoBulk x.1) ∧ l.length ≤ Rows.uptoBulk x.1 := by
  haveI : Inhabited (ByteArray × ByteArray) := ⟨(⟨#[]⟩, ⟨#[]⟩)⟩
  obtain ⟨l, a, cap, h1, h2, h3, h4, _⟩ := open_rows (α := ByteArray × ByteArray) ecell (fun p d => p.1.size ≤ Rows.uptoBulk d ∧ p.2.size ≤ Rows.uptoBulk d) (fun _ => rfl) (by decide) Tryd.underlying51 cells_env (fun n cs' d pl h => by
    obtain ⟨xs, k, hk, hxy, hlen, hxl, hf⟩ := DataW.trod_struct Tryd.underlying64 h
    rw [cells_env] at hlen
    match xs, hxl, cs', hlen with
    | [y0, y1], _, [v0, v1], _ =>
      have g0 := hf 0 _ rfl
      have g1 := hf 1 _ rfl
      simp [cells_str] at g0 g1
      obtain ⟨k0, e0, f0, _⟩ := DataW.trod_string Tryd.underlying9 g0
      obtain ⟨k1, e1, f1, _⟩ := DataW.trod_string Tryd.underlying9 g1
      simp only [List.cons.injEq, and_true] at e0 e1
      subst e0 e1
      simp only [Prod.mk.injEq] at hxy
      refine ⟨(k0, k1), rfl, ?_, ?_⟩
      · rw [hxy.1, f0, f1]
        simp [Rows.uptoBulk, Rows.uptoBulkAll]
        omega
      · rw [hxy.1, f0, f1]
        simp [Rows.uptoBulk, Rows.uptoBulkAll]
        omega) h
  exact ⟨l, a, cap, h1, h2, fun p hp => by obtain ⟨d, h5, h6⟩ := h3 p hp; exact ⟨by omega, by omega⟩, h4⟩
set_option maxRecDepth 100000 in
set_option maxHeartbeats 1000000 in
theorem open_cont {H : Type} {enc : TypeId × Value → H} {W : World} {fuel : Nat} {cs : List Value} {d : DataW H} {pl : List MemPlace} (h : DataW.trod enc Tryd.prog W 0 (fun _ => true) true fuel 53 cs = some (d, pl)) :
    ∃ m : CM, cs = m.cells ∧ m.In W ∧ (Rows.uptoBulk d ≤ 1048576 → m.c.Low) := by
  obtain ⟨xs, k, hk, hxy, hlen, hxl, hf⟩ := DataW.trod_struct Tryd.underlying53 h
  rw [cells_cont] at hlen
  match xs, hxl, cs, hlen with
  | [y0, y1, y2, y3, y4, y5, y6], _, [v0, v1, v2, v3, v4, v5, v6], _ =>
    have g0 := hf 0 _ rfl
    have g1 := hf 1 _ rfl
    have g2 := hf 2 _ rfl
    have g3 := hf 3 _ rfl
    have g4 := hf 4 _ rfl
    have g5 := hf 5 _ rfl
    have g6 := hf 6 _ rfl
    simp [cells_str, cells_int64, cells_sstr, cells_sport, cells_senv] at g0 g1 g2 g3 g4 g5 g6
    obtain ⟨k0, e0, f0, _⟩ := DataW.trod_string Tryd.underlying9 g0
    obtain ⟨k1, e1, f1, _⟩ := DataW.trod_string Tryd.underlying9 g1
    obtain ⟨k2, a2, c2, e2, r2, b2, n2⟩ := open_texts g2
    obtain ⟨k3, a3, c3, e3, r3, b3, n3, o3⟩ := open_ports g3
    obtain ⟨k4, e4, f4, w4⟩ := DataW.trod_int Tryd.underlying2 g4
    obtain ⟨k5, e5, f5, w5⟩ := DataW.trod_int Tryd.underlying2 g5
    obtain ⟨k6, a6, c6, e6, r6, b6, n6⟩ := open_envs g6
    simp only [List.cons.injEq, and_true] at e0 e1 e2 e3 e4 e5 e6
    subst e0 e1 e2 e3 e4 e5 e6
    simp only [Prod.mk.injEq] at hxy
    refine ⟨⟨⟨k0, k1, k2, k3, k4, k5, k6⟩, a2, c2, a3, c3, a6, c6⟩, rfl, ⟨r2, r3, r6, o3⟩, fun hb => ?_⟩
    have hall : Rows.uptoBulk y0.1 + (Rows.uptoBulk y1.1 + (Rows.uptoBulk y2.1 + (Rows.uptoBulk y3.1 + Rows.uptoBulk y6.1))) ≤ 1048576 := by
      rw [hxy.1] at hb
      simp only [List.map_cons, List.map_nil, Rows.uptoBulk, Rows.uptoBulkAll] at hb
      omega
    have s0 : k0.size ≤ Rows.uptoBulk y0.1 := by rw [f0]; simp [Rows.uptoBulk]
    have s1 : k1.size ≤ Rows.uptoBulk y1.1 := by rw [f1]; simp [Rows.uptoBulk]
    exact { name := by show k0.size ≤ _; omega, image := by show k1.size ≤ _; omega, lc := by show k2.length ≤ _; omega, lp := by show k3.length ≤ _; omega, le := by show k6.length ≤ _; omega,
            cmd := fun s hs => by have := b2 s hs; omega, env := fun v hv => by have := b6 v hv; omega, icpu := w4, imem := w5, ip := b3 }
set_option maxRecDepth 100000 in
set_option maxHeartbeats 1000000 in
theorem open_pod {H : Type} {enc : TypeId × Value → H} {W : World} {fuel : Nat} {cs : List Value} {d : DataW H} {pl : List MemPlace} (h : DataW.trod enc Tryd.prog W 0 (fun _ => true) true fuel 25 cs = some (d, pl)) :
    ∃ p : PM, cs = p.val.cells.toList ∧ p.At W ∧ (Rows.uptoBulk d ≤ 1048576 → p.Low) := by
  haveI : Inhabited CM := ⟨⟨⟨⟨#[]⟩, ⟨#[]⟩, [], [], 0, 0, []⟩, none, 0, none, 0, none, 0⟩⟩
  obtain ⟨xs, k, hk, hxy, hlen, hxl, hf⟩ := DataW.trod_struct Tryd.underlying25 h
  rw [cells_pod] at hlen
  match xs, hxl, cs, hlen with
  | [y0, y1, y2, y3, y4, y5], _, [v0, v1, v2, v3, v4, v5], _ =>
    have g0 := hf 0 _ rfl
    have g1 := hf 1 _ rfl
    have g2 := hf 2 _ rfl
    have g3 := hf 3 _ rfl
    have g4 := hf 4 _ rfl
    have g5 := hf 5 _ rfl
    simp [cells_str, cells_int64, cells_res, cells_bool, cells_scont] at g0 g1 g2 g3 g4 g5
    obtain ⟨k0, e0, f0, _⟩ := DataW.trod_string Tryd.underlying9 g0
    obtain ⟨k1, e1, f1, _⟩ := DataW.trod_string Tryd.underlying9 g1
    obtain ⟨k2, e2, f2, w2⟩ := DataW.trod_int Tryd.underlying22 g2
    obtain ⟨k3, e3, f3, w3⟩ := DataW.trod_int Tryd.underlying2 g3
    obtain ⟨k4, e4, f4⟩ := DataW.trod_bool Tryd.underlying4 g4
    obtain ⟨l, a, cap, e5, r5, b5, n5, l5⟩ := open_rows (α := CM) CM.cells (fun m d => m.In W ∧ (Rows.uptoBulk d ≤ 1048576 → m.c.Low)) (fun _ => rfl) (by decide) Tryd.underlying23 cells_cont (fun n cs' d pl h => open_cont h) g5
    simp only [List.cons.injEq, and_true] at e0 e1 e2 e3 e4 e5
    subst e0 e1 e2 e3 e4 e5
    simp only [Prod.mk.injEq] at hxy
    refine ⟨⟨k0, k1, k2, k3, k4, a, cap, l⟩, rfl, ⟨r5, fun m hm => by obtain ⟨d, h1, _⟩ := b5 m hm; exact h1.1, l5⟩, fun hb => ?_⟩
    have hall : Rows.uptoBulk y0.1 + (Rows.uptoBulk y1.1 + Rows.uptoBulk y5.1) ≤ 1048576 := by
      rw [hxy.1] at hb
      simp only [List.map_cons, List.map_nil, Rows.uptoBulk, Rows.uptoBulkAll] at hb
      omega
    have s0 : k0.size ≤ Rows.uptoBulk y0.1 := by rw [f0]; simp [Rows.uptoBulk]
    have s1 : k1.size ≤ Rows.uptoBulk y1.1 := by rw [f1]; simp [Rows.uptoBulk]
    exact { name := by show k0.size ≤ _; omega, ns := by show k1.size ≤ _; omega, ir := w2, ig := w3, len := by show l.length ≤ _; omega,
            cs := fun m hm => by obtain ⟨d, h1, h2⟩ := b5 m hm; exact h1.2 (by omega) }
end Go.Proofs.YtfhhmajkacjbgaaDoor
namespace Go.Proofs.YtfhhmajkacjbgaaDoor
open Go.ChangeShapes Go.WideShapes Go.ChangeAt Go.RowKit Go.Shelf
set_option linter.unusedVariables false

theorem own : ownKnob Tryd.prog.godebug = none := by kernel_rfl
theorem laidOut : laidOutB Tryd.prog = true := by kernel_rfl
theorem first_eq : Rows.laid_unicode_utf8_first = Lib.firstData := by kernel_rfl
theorem accept_eq : (Rows.laid_unicode_utf8_acceptRanges : DataW Unit) = Lib.acceptData := by kernel_rfl
theorem u8types : U8Types Tryd.prog Tryd.laysValid_ren := U8Types.of196 Tryd.laysValid
abbrev UTabs (w : World) : Prop := Lib.Utf8Tabs (Tryd.laysValid_ren.g 3) (Tryd.laysValid_ren.g 4) w
/-- What a statement's two walks are. -/
def WalkChecks : Prop := ∀ (p q : PM) (W : World), UTabs W → p.At W → q.At W → p.Low → q.Low → Calls Tryd.prog 3 #[p.val, q.val] W fun e w' => e = .returned (.bool true) ∧ Fresh W w'
def WalkDefaults : Prop := ∀ (p : PM) (W : World), UTabs W → p.At W → p.Low → Calls Tryd.prog 5 #[p.val] W fun e w' => e = .returned (.bool true) ∧ Fresh W w'
def putCells (h : Array Obj) (g : Nat) (cs : Array Value) : Array Obj := h.modify g fun o => match o with
  | .cells _ t frozen => .cells cs t frozen
  | o => o
/-- The witness: the settled world, both tables as their text lays them. -/
noncomputable def laidWorld (os : Os) : World :=
  let w0 := World.holding Tryd.prog os ⟨#[], #[], []⟩
  { w0 with heap := putCells (putCells w0.heap 2 (Lib.firstTab.map fun z => Value.int .u8 z).toArray) 3 ((List.range 16).flatMap fun i => [Value.int .u8 (Lib.accLo i), Value.int .u8 (Lib.accHi i)]).toArray }
abbrev pod0 : Value := .agg #[.string ⟨#[]⟩, .string ⟨#[]⟩, .int .i64 0, .int .i64 0, .bool false, .slice none 0 0]
theorem laid_met (os : Os) (args : Array Value) : laidMet Tryd.prog Rows.specChecksUptoRow.laid ((laidWorld os).forCall (fun _ _ => 0) ⟨#[], args, []⟩).memory :=
  (LaidIn.of_run (l := [("unicode/utf8.acceptRanges", Rows.laid_unicode_utf8_acceptRanges), ("unicode/utf8.first", Rows.laid_unicode_utf8_first)]) [3, 2] 8 (by kernel_rfl) (by kernel_rfl) (by kernel_rfl) (by kernel_rfl)).met
theorem witness_checks (os : Os) {H : Type} (enc : TypeId × Value → H) :
    (Rows.OpenSpec.upto Rows.specChecksSpec).preRow enc Tryd.prog Tryd.f3 Rows.specChecksUptoRow.domain false Rows.specChecksUptoRow.laid ((laidWorld os).forCall (fun _ _ => 0) ⟨#[], #[pod0, pod0], []⟩).memory #[pod0, pod0] := by
  have hw : (DataW.whole enc Tryd.prog ((laidWorld os).forCall (fun _ _ => 0) ⟨#[], #[pod0, pod0], []⟩).memory Tryd.f3.params.toList (Rows.OpenSpec.upto Rows.specChecksSpec).vars false #[pod0, pod0].toList 8).map (fun x => (x.1, x.2.1)) =
      some ([.agg [.lit (.string []), .lit (.string []), .lit (.int .i64 0), .lit (.int .i64 0), .lit (.bool false), .nil], .agg [.lit (.string []), .lit (.string []), .lit (.int .i64 0), .lit (.int .i64 0), .lit (.bool false), .nil]], []) := by kernel_rfl
  obtain ⟨⟨x1, x2, x3⟩, hx, hx1⟩ := Option.map_eq_some_iff.1 hw
  simp only [Prod.mk.injEq] at hx1
  obtain ⟨rfl, rfl⟩ := hx1
  exact OpenSpec.preRow_of_cond 8 hx (by kernel_rfl) (fun k hk => by cases hk; kernel_rfl) (by kernel_rfl) (laid_met os _)
set_option maxRecDepth 100000 in
theorem utf8_tabs {W : World} (hL : laidMet Tryd.prog Rows.specChecksUptoRow.laid W) : UTabs W :=
  utf8Tabs_of_readsT u8types ⟨by kernel_rfl, by kernel_rfl, by kernel_rfl, by kernel_rfl, by kernel_rfl, by kernel_rfl, by kernel_rfl⟩
    (by rw [← first_eq]; exact Lib.laidMet.reads hL (.tail _ (.head _))) (by rw [← accept_eq]; exact Lib.laidMet.reads hL (.head _))
set_option maxRecDepth 100000 in
/-- A pod among the arguments. -/
theorem arg_pod {H : Type} {enc : TypeId × Value → H} {W : World} {base : Nat} {v : Value} {d : DataW H} {p : List MemPlace} (ho : Value.okWide Tryd.prog W .any base 25 v) (h : DataW.Trod enc Tryd.prog W 0 (fun _ => true) true 25 v d p) :
    ∃ m : PM, v = m.val ∧ m.At W ∧ (Rows.uptoBulk d ≤ 1048576 → m.Low) := by
  obtain ⟨cs, rfl, hs⟩ := okWide_struct Tryd.underlying25 ho
  obtain ⟨f, g⟩ := h
  obtain ⟨m, h1, h2, h3⟩ := open_pod g
  refine ⟨m, ?_, h2, h3⟩
  have : cs = m.val.cells := Array.toList_inj.1 h1
  rw [this]; rfl
theorem trod_low {H : Type} {enc : TypeId × Value → H} {W : World} {t : TypeId} {v : Value} {d : DataW H} {p : List MemPlace} (h : DataW.Trod enc Tryd.prog W 0 (fun _ => true) true t v d p) : ∀ x ∈ p, x.block < W.heap.size := by
  obtain ⟨m, hm⟩ := h
  exact DataW.trod_lt m _ _ _ hm
set_option maxRecDepth 100000 in
set_option maxHeartbeats 2000000 in
theorem lifted_checks (hwalk : WalkChecks) (os : Os) (started : os.Started) (H : Type) (enc : TypeId × Value → H) (F : Stop.Interp) :
    ReturnsInHanded {} Tryd.checked os 3 .any ((Rows.OpenSpec.upto Rows.specChecksSpec).preRow enc Tryd.prog Tryd.f3 Rows.specChecksUptoRow.domain false Rows.specChecksUptoRow.laid) (((Rows.OpenSpec.upto Rows.specChecksSpec).at F).post enc Tryd.prog Tryd.f3 false true false false) := by
  refine returnsInHanded_of_row (C := Tryd.checked) (s := Rows.OpenSpec.upto Rows.specChecksSpec) own started (by kernel_rfl) Tryd.func3
    (witness_row_atRef (enc := enc) (C := Tryd.checked) false (laidWorld os) #[pod0, pod0] rfl (by kernel_rfl) (by kernel_rfl) (by kernel_rfl) (witness_checks os enc)) ?_
  intro W base args ds gs before hval0 hW _ hcond _ hL _ _
  have hval : ∀ (j : Nat) t v, Tryd.f3.params[j]? = some t → args[j]? = some v → Value.okWide Tryd.prog W .any base t v := hval0
  have hW' := hW
  obtain ⟨p, q, hA0, hV0, rfl, _, _⟩ := hW
  have hA : DataW.TrodAll enc Tryd.prog W 0 (fun _ => true) true Tryd.f3.params.toList args.toList ds p := hA0
  rw [Tryd.params3] at hA hval
  obtain ⟨v0, vs0, d0, ds0, p0, q0, hargs, rfl, rfl, h0, r0⟩ := trodAll_cons hA
  obtain ⟨v1, vs1, d1, ds1, p1, q1, rfl, rfl, rfl, h1, r1⟩ := trodAll_cons r0
  obtain ⟨rfl, rfl, rfl⟩ := trodAll_nil r1
  obtain rfl : args = #[v0, v1] := by cases args; simp_all
  obtain ⟨rfl, rfl⟩ := trodVars_none hV0
  have hk : Rows.uptoSmall H ([d0, d1] ++ []) = true := hcond _ rfl
  have hk2 : Rows.uptoBulkAll ([d0, d1] ++ []) ≤ 1048576 := of_decide_eq_true hk
  simp only [List.append_nil, Rows.uptoBulkAll] at hk2
  obtain ⟨m0, e0, a0, l0⟩ := arg_pod (hval 0 25 v0 rfl rfl) h0
  obtain ⟨m1, e1, a1, l1⟩ := arg_pod (hval 1 25 v1 rfl rfl) h1
  have lt0 := trod_low h0
  have lt1 := trod_low h1
  subst e0 e1
  refine (hwalk m0 m1 W (utf8_tabs hL) a0 a1 (l0 (by omega)) (l1 (by omega))).mono ?_
  rintro e W' ⟨rfl, hg⟩
  have e1 : ((Rows.OpenSpec.upto Rows.specChecksSpec).at F).fn H ([d0, d1] ++ []) = { results := [.lit (.bool true)], args := [d0, d1] } := rfl
  refine ⟨_, rfl, _, _, _, [], p0 ++ (p1 ++ []), [], hW', ?_, ?_, ?_, hg.frame _, fun h => by cases h⟩
  · rw [e1]; exact trodAll_mk1 (shut_bool Tryd.underlying4 _)
  · rw [e1]; exact trodAll_cons_mk (Below.trod laidOut (by kernel_rfl) (of_decide_eq_true (by kernel_rfl)) h0 hg lt0) (trodAll_cons_mk (Below.trod laidOut (by kernel_rfl) (of_decide_eq_true (by kernel_rfl)) h1 hg lt1) trodAll_mk0)
  · rw [e1]; rfl
theorem checks_row (hwalk : WalkChecks) : Rows.SpecChecksUptoSaid :=
  OpenClaim.holds_of_cond 3 Tryd.f3 rfl rfl rfl rfl rfl rfl rfl ⟨rfl, rfl, rfl, rfl, rfl⟩ rfl rfl rfl rfl rfl (by kernel_rfl) Tryd.func3 (by kernel_rfl)
    (of_decide_eq_true (by kernel_rfl)) (by unfold Func.isWrapper; first | (rw [if_neg (of_decide_eq_false (by kernel_rfl))]; exact ⟨rfl, rfl⟩) | (rw [if_pos (by decide +kernel)]; kernel_rfl))
    (fun os started H enc _ F0 => by rw [OpenClaim.pre_eq_preRow]; exact lifted_checks hwalk os started H enc F0)
theorem plain_checks (f : FuncId) (fn : Func) (hf : Tryd.pinned.checked.prog.funcNamed "bosun/bosunlaw14.SpecChecks" = some f) (hfn : Tryd.pinned.checked.prog.funcs[f]? = some fn) :
    false = Tryd.pinned.checked.prog.looks [] ∧ ∀ (j : Nat) t, fn.params[j]? = some t → Tryd.pinned.checked.prog.wantsStandIn t = false := by
  obtain rfl : f = 3 := Option.some.inj ((show Tryd.prog.funcNamed "bosun/bosunlaw14.SpecChecks" = some 3 by kernel_rfl).symm.trans hf) |>.symm
  obtain rfl : fn = Tryd.f3 := (Option.some.inj (Tryd.func3.symm.trans hfn)).symm
  refine ⟨by kernel_rfl, fun j t ht => ?_⟩
  rw [Tryd.params3] at ht
  have h3 : t = 25 := by
    rcases j with _ | _ | j
    · simpa using ht.symm
    · simpa using ht.symm
    · simp at ht
  subst h3
  exact (show Tryd.prog.wantsStandIn 25 = false by kernel_rfl)
theorem checks_card (hwalk : WalkChecks) : Rows.SpecChecksUptoCardSaid :=
  Claim7.holds_tied_plain_at .later [] _ _ _ _ (checks_row hwalk) (fun _ h => by cases h) (by kernel_rfl) (fun _ h => by cases h) specChecksUpto_row_tie rfl ⟨rfl, rfl⟩ (by kernel_rfl) rfl plain_checks (by kernel_rfl)
end Go.Proofs.YtfhhmajkacjbgaaDoor
namespace Go.Proofs.YtfhhmajkacjbgaaDoor
open Go.ChangeShapes Go.WideShapes Go.ChangeAt Go.RowKit
attribute [local go_sem ↓] Go.wp_at_zero Go.wp_at_succ

set_option maxRecDepth 100000 in
set_option maxHeartbeats 40000000 in
theorem defaults_walk : WalkDefaults := by
  intro p w hT hp lp
  have HSM := Lib.hid (fun W (f : Fresh w W) => podSmall_any p W (hp.move f) lp)
  have HAW := Lib.hid (fun W (f : Fresh w W) => awake14_any W (Tabs.move hT f))
  have HDF := Lib.hid (fun W (f : Fresh w W) => default_any p W (hp.move f) lp)
  have HOF := Lib.hid (fun W (f : Fresh w W) => of_own p w W hp f lp)
  have HP := Lib.hid hp
  have HLP := Lib.hid lp
  have HT : Hid (Tabs w) := hT
  have HSP := Lib.hid (fun h : weight p.pd ≤ 20000 => pod_sml h)
  obtain ⟨PP, hPP⟩ : ∃ x, x = p := ⟨_, rfl⟩
  rw [← hPP] at HSM HDF HOF HP HLP HSP
  have HPP := Lib.hid hPP
  have hv : p.val = .agg #[.string PP.name, .string PP.ns, .int .i64 PP.restart, .int .i64 PP.grace, .bool PP.host, .slice PP.a PP.cs.length PP.cap] := by rw [hPP]; rfl
  rw [hv]
  rw [show PP.val = .agg #[.string PP.name, .string PP.ns, .int .i64 PP.restart, .int .i64 PP.grace, .bool PP.host, .slice PP.a PP.cs.length PP.cap] from rfl] at HSM HDF HOF
  clear hT hp lp hPP hv HPP
  have HB := Lib.hid (show (w.alloc (podObj PP 25)).heap[w.heap.size]? = some (podObj PP 25) from at_new _ _)
  have HF0 := Lib.hid ((Fresh.refl w).alloc (podObj PP 25))
  have hW0 : ∃ W0, W0 = w.alloc (podObj PP 25) := ⟨_, rfl⟩
  obtain ⟨W0, hW0⟩ := hW0
  rw [← hW0] at HB HF0
  have HW0 : Hid (w.alloc (.cells #[.string PP.name, .string PP.ns, .int .i64 PP.restart, .int .i64 PP.grace, .bool PP.host, .slice PP.a PP.cs.length PP.cap] 25) = W0) := hW0.symm
  clear hW0
  by_cases h1 : weight PP.pd ≤ 20000
  case neg =>
    rw [decide_eq_false h1] at HSM
    have hW0 := HW0.out
    clear h1 HOF HP HSP HDF HLP
    obtain ⟨⟨q0, q1, q2, q3, q4, q5⟩, _⟩ := pod_cells HB.out
    go_enter Tryd.func5, Tryd.ntmps5
    go_wp2_with (fail)
    refine (HSM.out _ HF0.out).mono ?_
    rintro e W1 ⟨rfl, hf⟩
    have HF1 := Lib.hid (HF0.out.trans hf)
    clear hf
    go_wp2_with (fail)
    refine (HAW.out _ HF1.out).mono ?_
    rintro e W2 ⟨rfl, hf⟩
    have HF2 := Lib.hid (HF1.out.trans hf)
    clear hf
    go_wp2
    go_ret
    exact ⟨rfl, HF2.out⟩
  rw [decide_eq_true h1] at HSM
  have HS1 := Lib.hid (HSP.out h1)
  have hW0 := HW0.out
  clear h1 HSP
  obtain ⟨⟨q0, q1, q2, q3, q4, q5⟩, _⟩ := pod_cells HB.out
  go_enter Tryd.func5, Tryd.ntmps5
  go_wp2_with (fail)
  clear q0 q1 q2 q3 q4 q5
  obtain ⟨b, hb⟩ : ∃ b, b = w.heap.size := ⟨_, rfl⟩
  rw [← hb] at HB ⊢
  have HBW := Lib.hid hb
  clear hb hW0 HW0
  refine (HSM.out _ HF0.out).mono ?_
  rintro e W1 ⟨rfl, hf⟩
  have HF1 := Lib.hid (HF0.out.trans hf)
  have HB1 := Lib.hid (hf.at HB.out)
  clear hf HB HSM
  obtain ⟨⟨q0, q1, q2, q3, q4, q5⟩, _⟩ := pod_cells HB1.out
  go_wp2_with (fail)
  refine (HDF.out _ HF1.out).mono ?_
  rintro e W2 ⟨q, rfl, hqd, hqa, hf⟩
  have HQD := Lib.hid hqd
  have HQA := Lib.hid hqa
  have HF2 := Lib.hid (HF1.out.trans hf)
  have HB2 := Lib.hid (hf.at HB1.out)
  clear hf hqd hqa q0 q1 q2 q3 q4 q5 HB1
  rw [show q.val = .agg #[.string q.name, .string q.ns, .int .i64 q.restart, .int .i64 q.grace, .bool q.host, .slice q.a q.cs.length q.cap] from rfl]
  have HLQ := Lib.hid (low_def HQD.out HLP.out)
  have HA3 := Lib.hid (show (W2.alloc (podObj q 25)).heap[W2.heap.size]? = some (podObj q 25) from at_new _ _)
  have HFA := Lib.hid ((Fresh.refl W2).alloc (podObj q 25))
  have HDQ := Lib.hid (fun W (f : Fresh W2 W) => default_any q W (HQA.out.at.move f) HLQ.out)
  rw [show q.val = .agg #[.string q.name, .string q.ns, .int .i64 q.restart, .int .i64 q.grace, .bool q.host, .slice q.a q.cs.length q.cap] from rfl] at HDQ
  obtain ⟨W3, hW3⟩ : ∃ W3, W3 = W2.alloc (podObj q 25) := ⟨_, rfl⟩
  rw [← hW3] at HA3 HFA
  have hW3b : W2.alloc (.cells #[.string q.name, .string q.ns, .int .i64 q.restart, .int .i64 q.grace, .bool q.host, .slice q.a q.cs.length q.cap] 25) = W3 := hW3.symm
  clear hW3
  obtain ⟨⟨q0, q1, q2, q3, q4, q5⟩, _⟩ := pod_cells HA3.out
  go_wp2_with (fail)
  clear hW3b q0 q1 q2 q3 q4 q5
  have HZ3 : Hid (W2.heap.size < W3.heap.size) := lt_of_at HA3.out
  generalize hz3 : W2.heap.size = z3 at *
  have HZ3b := Lib.hid hz3
  clear hz3
  refine (HDQ.out _ HFA.out).mono ?_
  rintro e W4 ⟨r, rfl, hrd, hra, hf⟩
  have HRD := Lib.hid hrd
  have HF4 := Lib.hid (HFA.out.trans hf)
  have HA34 := Lib.hid (hf.at HA3.out)
  have HLR := Lib.hid (low_def HRD.out HLQ.out)
  have HRA := Lib.hid hra
  clear hf hrd hra
  rw [show r.val = .agg #[.string r.name, .string r.ns, .int .i64 r.restart, .int .i64 r.grace, .bool r.host, .slice r.a r.cs.length r.cap] from rfl]
  have HRQ : Hid (r.pd = q.pd) := by rw [Hid, HRD.out, HQD.out, defP_twice]
  have HA4 := Lib.hid (show (W4.alloc (podObj r 25)).heap[W4.heap.size]? = some (podObj r 25) from at_new _ _)
  have HFB := Lib.hid ((Fresh.refl W4).alloc (podObj r 25))
  obtain ⟨W5, hW5⟩ : ∃ W5, W5 = W4.alloc (podObj r 25) := ⟨_, rfl⟩
  rw [← hW5] at HA4 HFB
  have hW5b : W4.alloc (.cells #[.string r.name, .string r.ns, .int .i64 r.restart, .int .i64 r.grace, .bool r.host, .slice r.a r.cs.length r.cap] 25) = W5 := hW5.symm
  clear hW5
  have HQ5 : Hid (Fresh W2 W5) := HF4.out.trans HFB.out
  have HSR : Hid (Calls Tryd.prog 14 #[.agg #[.string r.name, .string r.ns, .int .i64 r.restart, .int .i64 r.grace, .bool r.host, .slice r.a r.cs.length r.cap], .agg #[.string q.name, .string q.ns, .int .i64 q.restart, .int .i64 q.grace, .bool q.host, .slice q.a q.cs.length q.cap]] W5 fun e w' => e = .returned (.bool true) ∧ Fresh W5 w') := by
    have := same_any r q W5 (HRA.out.at.move HFB.out) (HQA.out.at.move HQ5.out) HLR.out HLQ.out
    rw [HRQ.out, sameP_refl] at this
    exact this
  obtain ⟨⟨q0, q1, q2, q3, q4, q5⟩, _⟩ := pod_cells (HFB.out.at HA34.out)
  obtain ⟨⟨r0, r1, r2, r3, r4, r5⟩, _⟩ := pod_cells HA4.out
  go_wp2_with (fail)
  clear hW5b
  generalize W4.heap.size = z4 at *
  refine HSR.out.mono ?_
  rintro e W6 ⟨rfl, hf⟩
  have HF6 := Lib.hid (HF2.out.trans (HQ5.out.trans hf))
  have HQ6 := Lib.hid (HQ5.out.trans hf)
  have HB6 := Lib.hid ((HQ5.out.trans hf).at HB2.out)
  have HA36 := Lib.hid ((HFB.out.trans hf).at HA34.out)
  clear hf q0 q1 q2 q3 q4 q5 r0 r1 r2 r3 r4 r5 HSR
  have HCK : Hid (∀ W, Fresh w W → Calls Tryd.prog 9 #[.agg #[.string PP.name, .string PP.ns, .int .i64 PP.restart, .int .i64 PP.grace, .bool PP.host, .slice PP.a PP.cs.length PP.cap]] W fun e w' => e = .returned (.int .i64 (podE PP.pd)) ∧ Fresh W w') := fun W f =>
    check_any PP W (HT.out.move f) (HP.out.move f) HS1.out (fun m hm => (HP.out.ins m hm).room)
  have HEQ := Lib.hid (fun h : podE PP.pd = 0 => (show q.pd = PP.pd from HQD.out.trans (podE_def PP.pd h)))
  generalize podE PP.pd = E at *
  obtain ⟨⟨q0, q1, q2, q3, q4, q5⟩, _⟩ := pod_cells HB6.out
  go_wp2_with (fail)
  refine (HCK.out _ HF6.out).mono ?_
  rintro e W7 ⟨rfl, hf⟩
  have HF7 := Lib.hid (HF6.out.trans hf)
  have HQ7 := Lib.hid (HQ6.out.trans hf)
  have HB7 := Lib.hid (hf.at HB6.out)
  have HA37 := Lib.hid (hf.at HA36.out)
  clear hf q0 q1 q2 q3 q4 q5 HCK
  have HSMLQ : Hid ((∀ m ∈ q.cs, m.c.Sml) ∧ q.cs.length ≤ 1000) := by
    have h5 : q.cs.map (·.c) = (PP.cs.map (·.c)).map defC := by
      have := congrArg Pd.cs HQD.out
      exact this
    refine ⟨fun m hm => ?_, ?_⟩
    · have h6 : m.c ∈ q.cs.map (·.c) := List.mem_map.2 ⟨m, hm, rfl⟩
      rw [h5] at h6
      obtain ⟨c, h7, h8⟩ := List.mem_map.1 h6
      rw [← h8]
      exact defC_sml (HS1.out.cs c h7)
    · have := congrArg List.length h5
      simp only [List.length_map] at this
      rw [this]
      have h9 := HS1.out.len
      simpa [PM.pd] using h9
  obtain ⟨⟨q0, q1, q2, q3, q4, q5⟩, _⟩ := pod_cells HB7.out
  obtain ⟨⟨r0, r1, r2, r3, r4, r5⟩, _⟩ := pod_cells HA37.out
  by_cases hE : E = 0
  · have HSQ : Hid (Calls Tryd.prog 14 #[.agg #[.string q.name, .string q.ns, .int .i64 q.restart, .int .i64 q.grace, .bool q.host, .slice q.a q.cs.length q.cap], .agg #[.string PP.name, .string PP.ns, .int .i64 PP.restart, .int .i64 PP.grace, .bool PP.host, .slice PP.a PP.cs.length PP.cap]] W7 fun e w' => e = .returned (.bool true) ∧ Fresh W7 w') := by
      have := same_any q PP W7 (HQA.out.at.move HQ7.out) (HP.out.move HF7.out) HLQ.out HLP.out
      rw [HEQ.out hE, sameP_refl] at this
      exact this
    subst hE
    clear HEQ
    go_wp2_with (fail)
    refine HSQ.out.mono ?_
    rintro e W8 ⟨rfl, hf⟩
    have HF8 := Lib.hid (HF7.out.trans hf)
    have HQ8 := Lib.hid (HQ7.out.trans hf)
    have HB8 := Lib.hid (hf.at HB7.out)
    have HA38 := Lib.hid (hf.at HA37.out)
    clear hf q0 q1 q2 q3 q4 q5 r0 r1 r2 r3 r4 r5
    go_upto_if 31 with (fail)
    go_cut [1, 3] (fun a1 a3 wc => a1 = .pointer (some ⟨b, 0, none⟩) ∧ a3 = .pointer (some ⟨z3, 0, none⟩) ∧ W8 = wc)
    case first =>
      go_wp2
      go_meet
      case rel => exact ⟨rfl, rfl, rfl⟩
    case rest =>
      obtain ⟨rfl, rfl, rfl⟩ := hcut
      refine (‹∀ (a : Act) (w : World), Code.wp Tryd.prog _ _ a w → _› _ _ ?_)
      exact defaults_tail _ (by kernel_rfl) _ w W8 b z3 W1.heap.size PP q _ _ _ _ _ _ _ _ _ _ _ _ _ _ _ _ _ _ _ _ _ _ _ _ _ _ _ _ _ _ _ _ _ _ _ _ _ _ _ _ _ _ _ _ _ _ _ _ _ _ _ _ _ _ _ _ _ _ _ _ _ _ _ _ _ _ _ _ _ _ _ _ _ _ _ _ _ _ _ _ _ _ _ _ _ _ _ _ _ _ _ _ _ _ _ _ _ _ _ _ _ HT HP HLP HB8 HA38 (Lib.hid (HQA.out.fresh HQ8.out)) HF1.out.size (Lib.hid HSMLQ.out.1) HSMLQ.out.2 HF8 (fun a W h => h)
  · have e0 : (E == 0) = false := by rw [beq_eq_false_iff_ne]; exact hE
    clear HEQ q0 q1 q2 q3 q4 q5 r0 r1 r2 r3 r4 r5
    go_upto_if 31 with (fail)
    go_cut [1, 3] (fun a1 a3 wc => a1 = .pointer (some ⟨b, 0, none⟩) ∧ a3 = .pointer (some ⟨z3, 0, none⟩) ∧ W7 = wc)
    case first =>
      go_wp2
      go_meet
      case rel => exact ⟨rfl, rfl, rfl⟩
    case rest =>
      obtain ⟨rfl, rfl, rfl⟩ := hcut
      refine (‹∀ (a : Act) (w : World), Code.wp Tryd.prog _ _ a w → _› _ _ ?_)
      exact defaults_tail _ (by kernel_rfl) _ w W7 b z3 W1.heap.size PP q _ _ _ _ _ _ _ _ _ _ _ _ _ _ _ _ _ _ _ _ _ _ _ _ _ _ _ _ _ _ _ _ _ _ _ _ _ _ _ _ _ _ _ _ _ _ _ _ _ _ _ _ _ _ _ _ _ _ _ _ _ _ _ _ _ _ _ _ _ _ _ _ _ _ _ _ _ _ _ _ _ _ _ _ _ _ _ _ _ _ _ _ _ _ _ _ _ _ _ _ _ HT HP HLP HB7 HA37 (Lib.hid (HQA.out.fresh HQ7.out)) HF1.out.size (Lib.hid HSMLQ.out.1) HSMLQ.out.2 HF7 (fun a W h => h)
end Go.Proofs.YtfhhmajkacjbgaaDoor
namespace Go.Proofs.YtfhhmajkacjbgaaDoor
open Go.ChangeShapes Go.WideShapes Go.ChangeAt Go.RowKit Go.Shelf
set_option linter.unusedVariables false

theorem laid_met_d (os : Os) (args : Array Value) : laidMet Tryd.prog Rows.specDefaultsUptoRow.laid ((laidWorld os).forCall (fun _ _ => 0) ⟨#[], args, []⟩).memory := laid_met os args
theorem witness_defaults (os : Os) {H : Type} (enc : TypeId × Value → H) :
    (Rows.OpenSpec.upto Rows.specDefaultsSpec).preRow enc Tryd.prog Tryd.f5 Rows.specDefaultsUptoRow.domain false Rows.specDefaultsUptoRow.laid ((laidWorld os).forCall (fun _ _ => 0) ⟨#[], #[pod0], []⟩).memory #[pod0] := by
  have hw : (DataW.whole enc Tryd.prog ((laidWorld os).forCall (fun _ _ => 0) ⟨#[], #[pod0], []⟩).memory Tryd.f5.params.toList (Rows.OpenSpec.upto Rows.specDefaultsSpec).vars false #[pod0].toList 8).map (fun x => (x.1, x.2.1)) =
      some ([.agg [.lit (.string []), .lit (.string []), .lit (.int .i64 0), .lit (.int .i64 0), .lit (.bool false), .nil]], []) := by kernel_rfl
  obtain ⟨⟨x1, x2, x3⟩, hx, hx1⟩ := Option.map_eq_some_iff.1 hw
  simp only [Prod.mk.injEq] at hx1
  obtain ⟨rfl, rfl⟩ := hx1
  exact OpenSpec.preRow_of_cond 8 hx (by kernel_rfl) (fun k hk => by cases hk; kernel_rfl) (by kernel_rfl) (laid_met_d os _)
set_option maxRecDepth 100000 in
set_option maxHeartbeats 2000000 in
theorem lifted_defaults (hwalk : WalkDefaults) (os : Os) (started : os.Started) (H : Type) (enc : TypeId × Value → H) (F : Stop.Interp) :
    ReturnsInHanded {} Tryd.checked os 5 .any ((Rows.OpenSpec.upto Rows.specDefaultsSpec).preRow enc Tryd.prog Tryd.f5 Rows.specDefaultsUptoRow.domain false Rows.specDefaultsUptoRow.laid) (((Rows.OpenSpec.upto Rows.specDefaultsSpec).at F).post enc Tryd.prog Tryd.f5 false true false false) := by
  refine returnsInHanded_of_row (C := Tryd.checked) (s := Rows.OpenSpec.upto Rows.specDefaultsSpec) own started (by kernel_rfl) Tryd.func5
    (witness_row_atRef (enc := enc) (C := Tryd.checked) false (laidWorld os) #[pod0] rfl (by kernel_rfl) (by kernel_rfl) (by kernel_rfl) (witness_defaults os enc)) ?_
  intro W base args ds gs before hval0 hW _ hcond _ hL _ _
  have hval : ∀ (j : Nat) t v, Tryd.f5.params[j]? = some t → args[j]? = some v → Value.okWide Tryd.prog W .any base t v := hval0
  have hW' := hW
  obtain ⟨p, q, hA0, hV0, rfl, _, _⟩ := hW
  have hA : DataW.TrodAll enc Tryd.prog W 0 (fun _ => true) true Tryd.f5.params.toList args.toList ds p := hA0
  rw [Tryd.params5] at hA hval
  obtain ⟨v0, vs0, d0, ds0, p0, q0, hargs, rfl, rfl, h0, r0⟩ := trodAll_cons hA
  obtain ⟨rfl, rfl, rfl⟩ := trodAll_nil r0
  obtain rfl : args = #[v0] := by cases args; simp_all
  obtain ⟨rfl, rfl⟩ := trodVars_none hV0
  have hk : Rows.uptoSmall H ([d0] ++ []) = true := hcond _ rfl
  have hk2 : Rows.uptoBulkAll ([d0] ++ []) ≤ 1048576 := of_decide_eq_true hk
  simp only [List.append_nil, Rows.uptoBulkAll] at hk2
  obtain ⟨m0, e0, a0, l0⟩ := arg_pod (hval 0 25 v0 rfl rfl) h0
  have lt0 := trod_low h0
  subst e0
  refine (hwalk m0 W (utf8_tabs hL) a0 (l0 (by omega))).mono ?_
  rintro e W' ⟨rfl, hg⟩
  have e1 : ((Rows.OpenSpec.upto Rows.specDefaultsSpec).at F).fn H ([d0] ++ []) = { results := [.lit (.bool true)], args := [d0] } := rfl
  refine ⟨_, rfl, _, _, _, [], p0 ++ [], [], hW', ?_, ?_, ?_, hg.frame _, fun h => by cases h⟩
  · rw [e1]; exact trodAll_mk1 (shut_bool Tryd.underlying4 _)
  · rw [e1]; exact trodAll_cons_mk (Below.trod laidOut (by kernel_rfl) (of_decide_eq_true (by kernel_rfl)) h0 hg lt0) trodAll_mk0
  · rw [e1]; rfl
theorem defaults_row (hwalk : WalkDefaults) : Rows.SpecDefaultsUptoSaid :=
  OpenClaim.holds_of_cond 5 Tryd.f5 rfl rfl rfl rfl rfl rfl rfl ⟨rfl, rfl, rfl, rfl, rfl⟩ rfl rfl rfl rfl rfl (by kernel_rfl) Tryd.func5 (by kernel_rfl)
    (of_decide_eq_true (by kernel_rfl)) (by unfold Func.isWrapper; first | (rw [if_neg (of_decide_eq_false (by kernel_rfl))]; exact ⟨rfl, rfl⟩) | (rw [if_pos (by decide +kernel)]; kernel_rfl))
    (fun os started H enc _ F0 => by rw [OpenClaim.pre_eq_preRow]; exact lifted_defaults hwalk os started H enc F0)
theorem plain_defaults (f : FuncId) (fn : Func) (hf : Tryd.pinned.checked.prog.funcNamed "bosun/bosunlaw14.SpecDefaults" = some f) (hfn : Tryd.pinned.checked.prog.funcs[f]? = some fn) :
    false = Tryd.pinned.checked.prog.looks [] ∧ ∀ (j : Nat) t, fn.params[j]? = some t → Tryd.pinned.checked.prog.wantsStandIn t = false := by
  obtain rfl : f = 5 := Option.some.inj ((show Tryd.prog.funcNamed "bosun/bosunlaw14.SpecDefaults" = some 5 by kernel_rfl).symm.trans hf) |>.symm
  obtain rfl : fn = Tryd.f5 := (Option.some.inj (Tryd.func5.symm.trans hfn)).symm
  refine ⟨by kernel_rfl, fun j t ht => ?_⟩
  rw [Tryd.params5] at ht
  have h3 : t = 25 := by
    rcases j with _ | j
    · simpa using ht.symm
    · simp at ht
  subst h3
  exact (show Tryd.prog.wantsStandIn 25 = false by kernel_rfl)
theorem defaults_card (hwalk : WalkDefaults) : Rows.SpecDefaultsUptoCardSaid :=
  Claim7.holds_tied_plain_at .later [] _ _ _ _ (defaults_row hwalk) (fun _ h => by cases h) (by kernel_rfl) (fun _ h => by cases h) specDefaultsUpto_row_tie rfl ⟨rfl, rfl⟩ (by kernel_rfl) rfl plain_defaults (by kernel_rfl)
end Go.Proofs.YtfhhmajkacjbgaaDoor
namespace Go.Proofs.YtfhhmajkacjbgaaDoor
theorem specdefaults : Rows.SpecDefaultsUptoCardSaid := defaults_card defaults_walk
end Go.Proofs.YtfhhmajkacjbgaaDoor
