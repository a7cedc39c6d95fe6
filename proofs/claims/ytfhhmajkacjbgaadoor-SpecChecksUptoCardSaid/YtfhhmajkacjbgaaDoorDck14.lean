/-
  PROVED: for every two pods whose readings each hold at most 1048576 values and letters the given statement SpecChecks returns true, where the library's two UTF-8 tables read as the program's text lays them (the card ties that); no other condition.
  A pod that came in, opened: where its rows lie; how great it is.
  From the walks of SpecChecks and SpecDefaults to their rows and cards (of what is of bulk at most 1048576): the walks stand here as hypotheses.
  bosunlaw14.SpecChecks, walked (printed by a script); its drawn region by what holds between its operations.
-/
import Derived.Test.YtfhhmajkacjbgaaDoorDck01
import Derived.Deep.Slices
import Derived.SizedLaws
import Derived.ChangeSame
import Derived.Test.YtfhhmajkacjbgaaDoorCards
import Derived.Test.YtfhhmajkacjbgaaDoorTie
import Derived.Test.YtfhhmajkacjbgaaDoorDck03
import Derived.Lib.LaidIn
import Derived.Lib.LaidU8T
import Derived.Deep.DeepHandedRow
import Derived.Deep.DeepWitnessRowRef
import Derived.SevenTiedAt
import Derived.Carry
import Derived.ChangeOld
import Derived.Test.YtfhhmajkacjbgaaDoorDck13
namespace Go.Proofs.YtfhhmajkacjbgaaDoor
open Go.ChangeShapes Go.WideShapes Go.ChangeAt Go.RowKit Go.Deep

theorem bulk_one {H : Type} (d : DataW H) : 1 ≤ Rows.uptoBulk d := by
  cases d with
  | lit l => cases l <;> simp [Rows.uptoBulk]
  | nil => simp [Rows.uptoBulk]
  | ptr d => simp [Rows.uptoBulk]
  | slice elems spare => simp [Rows.uptoBulk]
  | agg parts => simp [Rows.uptoBulk]
  | iface t d => simp [Rows.uptoBulk]
  | map entries => simp [Rows.uptoBulk]
  | held h => simp [Rows.uptoBulk]
theorem bulk_part {H : Type} {d : DataW H} {l : List (DataW H)} (h : d ∈ l) : Rows.uptoBulk d ≤ Rows.uptoBulkAll l := by
  induction l with
  | nil => cases h
  | cons x r ih =>
    simp only [Rows.uptoBulkAll]
    cases List.mem_cons.1 h with
    | inl e => subst e; omega
    | inr e => have := ih e; omega
theorem bulk_len {H : Type} (l : List (DataW H)) : l.length ≤ Rows.uptoBulkAll l := by
  induction l with
  | nil => simp
  | cons x r ih => have := bulk_one x; simp only [Rows.uptoBulkAll, List.length_cons]; omega
theorem cells_int : Tryd.prog.cellsOf 3 = 1 := by kernel_rfl
theorem cells_int64 : Tryd.prog.cellsOf 2 = 1 := by kernel_rfl
theorem cells_bool : Tryd.prog.cellsOf 4 = 1 := by kernel_rfl
theorem cells_str : Tryd.prog.cellsOf 9 = 1 := by kernel_rfl
theorem cells_res : Tryd.prog.cellsOf 22 = 1 := by kernel_rfl
theorem cells_pro : Tryd.prog.cellsOf 41 = 1 := by kernel_rfl
theorem cells_port : Tryd.prog.cellsOf 55 = 2 := by kernel_rfl
theorem cells_env : Tryd.prog.cellsOf 64 = 2 := by kernel_rfl
theorem cells_cont : Tryd.prog.cellsOf 53 = 7 := by kernel_rfl
theorem cells_pod : Tryd.prog.cellsOf 25 = 6 := by kernel_rfl
theorem cells_sstr : Tryd.prog.cellsOf 45 = 1 := by kernel_rfl
theorem cells_sport : Tryd.prog.cellsOf 50 = 1 := by kernel_rfl
theorem cells_senv : Tryd.prog.cellsOf 51 = 1 := by kernel_rfl
theorem cells_scont : Tryd.prog.cellsOf 23 = 1 := by kernel_rfl
/-- A slice's row, its elements read by 'each'. -/
theorem open_rows {H : Type} {enc : TypeId × Value → H} {W : World} {fuel : Nat} {α : Type} [Inhabited α] {t e k : Nat} (cell : α → List Value) (P : α → DataW H → Prop) (hk : ∀ y, (cell y).length = k) (hkp : 0 < k) (ht : Tryd.prog.underlying t = some (.slice e)) (hc : Tryd.prog.cellsOf e = k)
    (each : ∀ n cs' d pl, DataW.trod enc Tryd.prog W 0 (fun _ => true) true n e cs' = some (d, pl) → ∃ y, cs' = cell y ∧ P y d) {cs : List Value} {x : DataW H × List MemPlace} (h : DataW.trod enc Tryd.prog W 0 (fun _ => true) true fuel t cs = some x) :
    ∃ (l : List α) (a : Option Addr) (cap : Nat), cs = [.slice a l.length cap] ∧ RowAt W a (l.flatMap cell) ∧ (∀ y ∈ l, ∃ d, P y d ∧ Rows.uptoBulk d ≤ Rows.uptoBulk x.1) ∧ l.length ≤ Rows.uptoBulk x.1 ∧ l.length ≤ cap := by
  rcases open_slice ht h with ⟨rfl, rfl⟩ | ⟨ad, len, cap, m, n, D, Pl, rfl, _, hlc, hcm, hm, rfl, hx⟩
  · exact ⟨[], none, 0, rfl, RowAt.nil _ _, (fun y h => absurd h List.not_mem_nil), Nat.zero_le _, Nat.zero_le _⟩
  · simp only [if_true] at hm
    rw [hm] at hx
    rw [hc] at hx
    have hlm := hlc
    have get : ∀ i, i < len → ∃ y : α, (∀ j v, (cell y)[j]? = some v → W.cell? ((ad.add (i * k)).add j) = some v) ∧ P y (D i) := fun i hi => by
      obtain ⟨cs', h1, h2⟩ := hx i (by omega)
      obtain ⟨_, hlen, hcell⟩ := World.cells?_some h1
      obtain ⟨y, rfl, hp⟩ := each _ _ _ _ h2
      refine ⟨y, fun j v hj => ?_, hp⟩
      have hj3 := (List.getElem?_eq_some_iff.1 hj).1
      rw [hcell j (by rw [← hk y]; exact hj3)]
      exact hj
    obtain ⟨q, hq⟩ := choose_lt get
    have hll : ((List.range len).map q).length = len := by simp
    refine ⟨(List.range len).map q, some ad, cap, by rw [hll], ?_, ?_, ?_, by rw [hll]; exact hlc⟩
    · by_cases h0 : len = 0
      · subst h0; exact .nil _ _
      · obtain ⟨b, off, spot⟩ := ad
        have hc0 : ∃ v, (cell (q 0))[0]? = some v := ⟨_, List.getElem?_eq_getElem (by rw [hk]; exact hkp)⟩
        obtain ⟨v0, hv0⟩ := hc0
        obtain rfl : spot = none := by
          have := World.cell?_spot ((hq 0 (by omega)).1 0 v0 hv0)
          simpa [Addr.add] using this
        refine .inr ⟨b, off, rfl, fun j v hj => ?_⟩
        have hjl : j < len * k := by
          have := (List.getElem?_eq_some_iff.1 hj).1
          rw [flat_length cell k hk, hll] at this
          exact this
        have hi : j / k < len := Nat.div_lt_of_lt_mul (by rw [Nat.mul_comm]; exact hjl)
        have hr : j % k < k := Nat.mod_lt _ hkp
        have hjd : j / k * k + j % k = j := by rw [Nat.mul_comm]; exact Nat.div_add_mod j k
        have hg := flat_get cell k hk ((List.range len).map q) (j / k) (by rw [hll]; exact hi) (j % k) hr
        rw [hjd, hj] at hg
        have he : ((List.range len).map q)[j / k]'(by rw [hll]; exact hi) = q (j / k) := by simp
        rw [he] at hg
        have := (hq (j / k) hi).1 (j % k) v hg.symm
        rw [addr_add, addr_add, Nat.add_assoc, hjd] at this
        exact this
    · intro y hy
      obtain ⟨i, hi, rfl⟩ := List.mem_map.1 hy
      have hi' := List.mem_range.1 hi
      refine ⟨D i, (hq i hi').2, ?_⟩
      have : D i ∈ (List.range len).map D := List.mem_map.2 ⟨i, hi, rfl⟩
      have h2 := bulk_part this
      simp only [Rows.uptoBulk]
      omega
    · rw [hll]
      have := bulk_len ((List.range len).map D)
      simp only [Rows.uptoBulk]
      rw [List.length_map, List.length_range] at this
      omega
theorem open_texts {H : Type} {enc : TypeId × Value → H} {W : World} {fuel : Nat} {cs : List Value} {x : DataW H × List MemPlace} (h : DataW.trod enc Tryd.prog W 0 (fun _ => true) true fuel 45 cs = some x) :
    ∃ (l : List ByteArray) (a : Option Addr) (cap : Nat), cs = [.slice a l.length cap] ∧ RowAt W a (tcells l) ∧ (∀ s ∈ l, s.size ≤ Rows.uptoBulk x.1) ∧ l.length ≤ Rows.uptoBulk x.1 := by
  obtain ⟨l, a, cap, h1, h2, h3, h4, _⟩ := open_rows (α := ByteArray) tcell (fun s d => d = .lit (.string s.data.toList)) (fun _ => rfl) (by decide) Tryd.underlying45 cells_str (fun n cs' d pl h => by
    obtain ⟨s, e1, e2, _⟩ := DataW.trod_string Tryd.underlying9 h
    simp only [Prod.mk.injEq] at e2
    exact ⟨s, e1, e2.1⟩) h
  refine ⟨l, a, cap, h1, h2, fun s hs => ?_, h4⟩
  obtain ⟨d, rfl, hd⟩ := h3 s hs
  simp [Rows.uptoBulk] at hd
  omega
instance : Inhabited (Int × Int) := ⟨(0, 0)⟩
set_option maxRecDepth 100000 in
theorem open_ports {H : Type} {enc : TypeId × Value → H} {W : World} {fuel : Nat} {cs : List Value} {x : DataW H × List MemPlace} (h : DataW.trod enc Tryd.prog W 0 (fun _ => true) true fuel 50 cs = some x) :
    ∃ (l : List (Int × Int)) (a : Option Addr) (cap : Nat), cs = [.slice a l.length cap] ∧ RowAt W a (pcells l) ∧ (∀ p ∈ l, (Lit.int .i64 p.1).wf = true ∧ (Lit.int .i64 p.2).wf = true) ∧ l.length ≤ Rows.uptoBulk x.1 ∧ l.length ≤ cap := by
  obtain ⟨l, a, cap, h1, h2, h3, h4, h5⟩ := open_rows (α := Int × Int) pcell (fun p _ => (Lit.int .i64 p.1).wf = true ∧ (Lit.int .i64 p.2).wf = true) (fun _ => rfl) (by decide) Tryd.underlying50 cells_port (fun n cs' d pl h => by
    obtain ⟨xs, k, hk, hxy, hlen, hxl, hf⟩ := DataW.trod_struct Tryd.underlying55 h
    rw [cells_port] at hlen
    match xs, hxl, cs', hlen with
    | [y0, y1], _, [v0, v1], _ =>
      have g0 := hf 0 _ rfl
      have g1 := hf 1 _ rfl
      simp [cells_int64, cells_pro] at g0 g1
      obtain ⟨k0, e0, f0, w0⟩ := DataW.trod_int Tryd.underlying2 g0
      obtain ⟨k1, e1, f1, w1⟩ := DataW.trod_int Tryd.underlying41 g1
      simp only [List.cons.injEq, and_true] at e0 e1
      subst e0 e1
      exact ⟨(k0, k1), rfl, w0, w1⟩) h
  exact ⟨l, a, cap, h1, h2, fun p hp => (h3 p hp).choose_spec.1, h4, h5⟩
set_option maxRecDepth 100000 in
theorem open_envs {H : Type} {enc : TypeId × Value → H} {W : World} {fuel : Nat} {cs : List Value} {x : DataW H × List MemPlace} (h : DataW.trod enc Tryd.prog W 0 (fun _ => true) true fuel 51 cs = some x) :
    ∃ (l : List (ByteArray × ByteArray)) (a : Option Addr) (cap : Nat), cs = [.slice a l.length cap] ∧ RowAt W a (ecells l) ∧ (∀ p ∈ l, p.1.size ≤ Rows.uptoBulk x.1 ∧ p.2.size ≤ Rows.uptoBulk x.1) ∧ l.length ≤ Rows.uptoBulk x.1 := by
  haveI : Inhabited (ByteArray × ByteArray) := ⟨(⟨#[]⟩, ⟨#[]⟩)⟩
  obtain ⟨l, a, cap, h1, h2, h3, h4, _⟩ := open_rows (α := ByteArray × ByteArray) ecell (fun p d => p.1.size ≤ Rows.uptoBulk d ∧ p.2.size ≤ Rows.uptoBulk d) (fun _ => rfl) (by decide) Tryd.underlying51 cells_env (fun n cs' d pl h => by
    obtain ⟨xs, k, hk, hxy, hlen, hxl, hf⟩ := DataW.trod_struct Tryd.underlying64 h
    rw [cells_env] at hlen
    match xs, hxl, cs', hlen with
    | [y0, y1], _, [v0, v1], _ =>
      have g0 := hf 0 _ rfl
      have g1 := hf 1 _ rfl
      simp [cells_str] at g0 g1
      obtain ⟨k0, e0, f0, _⟩ := DataW.trod_string Tryd.underlying9 g0
      obtain ⟨k1, e1, f1, _⟩ := DataW.trod_string Tryd.underlying9 g1
      simp only [List.cons.injEq, and_true] at e0 e1
      subst e0 e1
      simp only [Prod.mk.injEq] at hxy
      refine ⟨(k0, k1), rfl, ?_, ?_⟩
      · rw [hxy.1, f0, f1]
        simp [Rows.uptoBulk, Rows.uptoBulkAll]
        omega
      · rw [hxy.1, f0, f1]
        simp [Rows.uptoBulk, Rows.uptoBulkAll]
        omega) h
  exact ⟨l, a, cap, h1, h2, fun p hp => by obtain ⟨d, h5, h6⟩ := h3 p hp; exact ⟨by omega, by omega⟩, h4⟩
set_option maxRecDepth 100000 in
set_option maxHeartbeats 1000000 in
theorem open_cont {H : Type} {enc : TypeId × Value → H} {W : World} {fuel : Nat} {cs : List Value} {d : DataW H} {pl : List MemPlace} (h : DataW.trod enc Tryd.prog W 0 (fun _ => true) true fuel 53 cs = some (d, pl)) :
    ∃ m : CM, cs = m.cells ∧ m.In W ∧ (Rows.uptoBulk d ≤ 1048576 → m.c.Low) := by
  obtain ⟨xs, k, hk, hxy, hlen, hxl, hf⟩ := DataW.trod_struct Tryd.underlying53 h
  rw [cells_cont] at hlen
  match xs, hxl, cs, hlen with
  | [y0, y1, y2, y3, y4, y5, y6], _, [v0, v1, v2, v3, v4, v5, v6], _ =>
    have g0 := hf 0 _ rfl
    have g1 := hf 1 _ rfl
    have g2 := hf 2 _ rfl
    have g3 := hf 3 _ rfl
    have g4 := hf 4 _ rfl
    have g5 := hf 5 _ rfl
    have g6 := hf 6 _ rfl
    simp [cells_str, cells_int64, cells_sstr, cells_sport, cells_senv] at g0 g1 g2 g3 g4 g5 g6
    obtain ⟨k0, e0, f0, _⟩ := DataW.trod_string Tryd.underlying9 g0
    obtain ⟨k1, e1, f1, _⟩ := DataW.trod_string Tryd.underlying9 g1
    obtain ⟨k2, a2, c2, e2, r2, b2, n2⟩ := open_texts g2
    obtain ⟨k3, a3, c3, e3, r3, b3, n3, o3⟩ := open_ports g3
    obtain ⟨k4, e4, f4, w4⟩ := DataW.trod_int Tryd.underlying2 g4
    obtain ⟨k5, e5, f5, w5⟩ := DataW.trod_int Tryd.underlying2 g5
    obtain ⟨k6, a6, c6, e6, r6, b6, n6⟩ := open_envs g6
    simp only [List.cons.injEq, and_true] at e0 e1 e2 e3 e4 e5 e6
    subst e0 e1 e2 e3 e4 e5 e6
    simp only [Prod.mk.injEq] at hxy
    refine ⟨⟨⟨k0, k1, k2, k3, k4, k5, k6⟩, a2, c2, a3, c3, a6, c6⟩, rfl, ⟨r2, r3, r6, o3⟩, fun hb => ?_⟩
    have hall : Rows.uptoBulk y0.1 + (Rows.uptoBulk y1.1 + (Rows.uptoBulk y2.1 + (Rows.uptoBulk y3.1 + Rows.uptoBulk y6.1))) ≤ 1048576 := by
      rw [hxy.1] at hb
      simp only [List.map_cons, List.map_nil, Rows.uptoBulk, Rows.uptoBulkAll] at hb
      omega
    have s0 : k0.size ≤ Rows.uptoBulk y0.1 := by rw [f0]; simp [Rows.uptoBulk]
    have s1 : k1.size ≤ Rows.uptoBulk y1.1 := by rw [f1]; simp [Rows.uptoBulk]
    exact { name := by show k0.size ≤ _; omega, image := by show k1.size ≤ _; omega, lc := by show k2.length ≤ _; omega, lp := by show k3.length ≤ _; omega, le := by show k6.length ≤ _; omega,
            cmd := fun s hs => by have := b2 s hs; omega, env := fun v hv => by have := b6 v hv; omega, icpu := w4, imem := w5, ip := b3 }
set_option maxRecDepth 100000 in
set_option maxHeartbeats 1000000 in
theorem open_pod {H : Type} {enc : TypeId × Value → H} {W : World} {fuel : Nat} {cs : List Value} {d : DataW H} {pl : List MemPlace} (h : DataW.trod enc Tryd.prog W 0 (fun _ => true) true fuel 25 cs = some (d, pl)) :
    ∃ p : PM, cs = p.val.cells.toList ∧ p.At W ∧ (Rows.uptoBulk d ≤ 1048576 → p.Low) := by
  haveI : Inhabited CM := ⟨⟨⟨⟨#[]⟩, ⟨#[]⟩, [], [], 0, 0, []⟩, none, 0, none, 0, none, 0⟩⟩
  obtain ⟨xs, k, hk, hxy, hlen, hxl, hf⟩ := DataW.trod_struct Tryd.underlying25 h
  rw [cells_pod] at hlen
  match xs, hxl, cs, hlen with
  | [y0, y1, y2, y3, y4, y5], _, [v0, v1, v2, v3, v4, v5], _ =>
    have g0 := hf 0 _ rfl
    have g1 := hf 1 _ rfl
    have g2 := hf 2 _ rfl
    have g3 := hf 3 _ rfl
    have g4 := hf 4 _ rfl
    have g5 := hf 5 _ rfl
    simp [cells_str, cells_int64, cells_res, cells_bool, cells_scont] at g0 g1 g2 g3 g4 g5
    obtain ⟨k0, e0, f0, _⟩ := DataW.trod_string Tryd.underlying9 g0
    obtain ⟨k1, e1, f1, _⟩ := DataW.trod_string Tryd.underlying9 g1
    obtain ⟨k2, e2, f2, w2⟩ := DataW.trod_int Tryd.underlying22 g2
    obtain ⟨k3, e3, f3, w3⟩ := DataW.trod_int Tryd.underlying2 g3
    obtain ⟨k4, e4, f4⟩ := DataW.trod_bool Tryd.underlying4 g4
    obtain ⟨l, a, cap, e5, r5, b5, n5, l5⟩ := open_rows (α := CM) CM.cells (fun m d => m.In W ∧ (Rows.uptoBulk d ≤ 1048576 → m.c.Low)) (fun _ => rfl) (by decide) Tryd.underlying23 cells_cont (fun n cs' d pl h => open_cont h) g5
    simp only [List.cons.injEq, and_true] at e0 e1 e2 e3 e4 e5
    subst e0 e1 e2 e3 e4 e5
    simp only [Prod.mk.injEq] at hxy
    refine ⟨⟨k0, k1, k2, k3, k4, a, cap, l⟩, rfl, ⟨r5, fun m hm => by obtain ⟨d, h1, _⟩ := b5 m hm; exact h1.1, l5⟩, fun hb => ?_⟩
    have hall : Rows.uptoBulk y0.1 + (Rows.uptoBulk y1.1 + Rows.uptoBulk y5.1) ≤ 1048576 := by
      rw [hxy.1] at hb
      simp only [List.map_cons, List.map_nil, Rows.uptoBulk, Rows.uptoBulkAll] at hb
      omega
    have s0 : k0.size ≤ Rows.uptoBulk y0.1 := by rw [f0]; simp [Rows.uptoBulk]
    have s1 : k1.size ≤ Rows.uptoBulk y1.1 := by rw [f1]; simp [Rows.uptoBulk]
    exact { name := by show k0.size ≤ _; omega, ns := by show k1.size ≤ _; omega, ir := w2, ig := w3, len := by show l.length ≤ _; omega,
            cs := fun m hm => by obtain ⟨d, h1, h2⟩ := b5 m hm; exact h1.2 (by omega) }
end Go.Proofs.YtfhhmajkacjbgaaDoor
namespace Go.Proofs.YtfhhmajkacjbgaaDoor
open Go.ChangeShapes Go.WideShapes Go.ChangeAt Go.RowKit Go.Shelf
set_option linter.unusedVariables false

theorem own : ownKnob Tryd.prog.godebug = none := by kernel_rfl
theorem laidOut : laidOutB Tryd.prog = true := by kernel_rfl
theorem first_eq : Rows.laid_unicode_utf8_first = Lib.firstData := by kernel_rfl
theorem accept_eq : (Rows.laid_unicode_utf8_acceptRanges : DataW Unit) = Lib.acceptData := by kernel_rfl
theorem u8types : U8Types Tryd.prog Tryd.laysValid_ren := U8Types.of196 Tryd.laysValid
abbrev UTabs (w : World) : Prop := Lib.Utf8Tabs (Tryd.laysValid_ren.g 3) (Tryd.laysValid_ren.g 4) w
/-- What a statement's two walks are. -/
def WalkChecks : Prop := ∀ (p q : PM) (W : World), UTabs W → p.At W → q.At W → p.Low → q.Low → Calls Tryd.prog 3 #[p.val, q.val] W fun e w' => e = .returned (.bool true) ∧ Fresh W w'
def WalkDefaults : Prop := ∀ (p : PM) (W : World), UTabs W → p.At W → p.Low → Calls Tryd.prog 5 #[p.val] W fun e w' => e = .returned (.bool true) ∧ Fresh W w'
def putCells (h : Array Obj) (g : Nat) (cs : Array Value) : Array Obj := h.modify g fun o => match o with
  | .cells _ t frozen => .cells cs t frozen
  | o => o
/-- The witness: the settled world, both tables as their text lays them. -/
noncomputable def laidWorld (os : Os) : World :=
  let w0 := World.holding Tryd.prog os ⟨#[], #[], []⟩
  { w0 with heap := putCells (putCells w0.heap 2 (Lib.firstTab.map fun z => Value.int .u8 z).toArray) 3 ((List.range 16).flatMap fun i => [Value.int .u8 (Lib.accLo i), Value.int .u8 (Lib.accHi i)]).toArray }
abbrev pod0 : Value := .agg #[.string ⟨#[]⟩, .string ⟨#[]⟩, .int .i64 0, .int .i64 0, .bool false, .slice none 0 0]
theorem laid_met (os : Os) (args : Array Value) : laidMet Tryd.prog Rows.specChecksUptoRow.laid ((laidWorld os).forCall (fun _ _ => 0) ⟨#[], args, []⟩).memory :=
  (LaidIn.of_run (l := [("unicode/utf8.acceptRanges", Rows.laid_unicode_utf8_acceptRanges), ("unicode/utf8.first", Rows.laid_unicode_utf8_first)]) [3, 2] 8 (by kernel_rfl) (by kernel_rfl) (by kernel_rfl) (by kernel_rfl)).met
theorem witness_checks (os : Os) {H : Type} (enc : TypeId × Value → H) :
    (Rows.OpenSpec.upto Rows.specChecksSpec).preRow enc Tryd.prog Tryd.f3 Rows.specChecksUptoRow.domain false Rows.specChecksUptoRow.laid ((laidWorld os).forCall (fun _ _ => 0) ⟨#[], #[pod0, pod0], []⟩).memory #[pod0, pod0] := by
  have hw : (DataW.whole enc Tryd.prog ((laidWorld os).forCall (fun _ _ => 0) ⟨#[], #[pod0, pod0], []⟩).memory Tryd.f3.params.toList (Rows.OpenSpec.upto Rows.specChecksSpec).vars false #[pod0, pod0].toList 8).map (fun x => (x.1, x.2.1)) =
      some ([.agg [.lit (.string []), .lit (.string []), .lit (.int .i64 0), .lit (.int .i64 0), .lit (.bool false), .nil], .agg [.lit (.string []), .lit (.string []), .lit (.int .i64 0), .lit (.int .i64 0), .lit (.bool false), .nil]], []) := by kernel_rfl
  obtain ⟨⟨x1, x2, x3⟩, hx, hx1⟩ := Option.map_eq_some_iff.1 hw
  simp only [Prod.mk.injEq] at hx1
  obtain ⟨rfl, rfl⟩ := hx1
  exact OpenSpec.preRow_of_cond 8 hx (by kernel_rfl) (fun k hk => by cases hk; kernel_rfl) (by kernel_rfl) (laid_met os _)
set_option maxRecDepth 100000 in
theorem utf8_tabs {W : World} (hL : laidMet Tryd.prog Rows.specChecksUptoRow.laid W) : UTabs W :=
  utf8Tabs_of_readsT u8types ⟨by kernel_rfl, by kernel_rfl, by kernel_rfl, by kernel_rfl, by kernel_rfl, by kernel_rfl, by kernel_rfl⟩
    (by rw [← first_eq]; exact Lib.laidMet.reads hL (.tail _ (.head _))) (by rw [← accept_eq]; exact Lib.laidMet.reads hL (.head _))
set_option maxRecDepth 100000 in
/-- A pod among the arguments. -/
theorem arg_pod {H : Type} {enc : TypeId × Value → H} {W : World} {base : Nat} {v : Value} {d : DataW H} {p : List MemPlace} (ho : Value.okWide Tryd.prog W .any base 25 v) (h : DataW.Trod enc Tryd.prog W 0 (fun _ => true) true 25 v d p) :
    ∃ m : PM, v = m.val ∧ m.At W ∧ (Rows.uptoBulk d ≤ 1048576 → m.Low) := by
  obtain ⟨cs, rfl, hs⟩ := okWide_struct Tryd.underlying25 ho
  obtain ⟨f, g⟩ := h
  obtain ⟨m, h1, h2, h3⟩ := open_pod g
  refine ⟨m, ?_, h2, h3⟩
  have : cs = m.val.cells := Array.toList_inj.1 h1
  rw [this]; rfl
theorem trod_low {H : Type} {enc : TypeId × Value → H} {W : World} {t : TypeId} {v : Value} {d : DataW H} {p : List MemPlace} (h : DataW.Trod enc Tryd.prog W 0 (fun _ => true) true t v d p) : ∀ x ∈ p, x.block < W.heap.size := by
  obtain ⟨m, hm⟩ := h
  exact DataW.trod_lt m _ _ _ hm
set_option maxRecDepth 100000 in
set_option maxHeartbeats 2000000 in
theorem lifted_checks (hwalk : WalkChecks) (os : Os) (started : os.Started) (H : Type) (enc : TypeId × Value → H) (F : Stop.Interp) :
    ReturnsInHanded {} Tryd.checked os 3 .any ((Rows.OpenSpec.upto Rows.specChecksSpec).preRow enc Tryd.prog Tryd.f3 Rows.specChecksUptoRow.domain false Rows.specChecksUptoRow.laid) (((Rows.OpenSpec.upto Rows.specChecksSpec).at F).post enc Tryd.prog Tryd.f3 false true false false) := by
  refine returnsInHanded_of_row (C := Tryd.checked) (s := Rows.OpenSpec.upto Rows.specChecksSpec) own started (by kernel_rfl) Tryd.func3
    (witness_row_atRef (enc := enc) (C := Tryd.checked) false (laidWorld os) #[pod0, pod0] rfl (by kernel_rfl) (by kernel_rfl) (by kernel_rfl) (witness_checks os enc)) ?_
  intro W base args ds gs before hval0 hW _ hcond _ hL _ _
  have hval : ∀ (j : Nat) t v, Tryd.f3.params[j]? = some t → args[j]? = some v → Value.okWide Tryd.prog W .any base t v := hval0
  have hW' := hW
  obtain ⟨p, q, hA0, hV0, rfl, _, _⟩ := hW
  have hA : DataW.TrodAll enc Tryd.prog W 0 (fun _ => true) true Tryd.f3.params.toList args.toList ds p := hA0
  rw [Tryd.params3] at hA hval
  obtain ⟨v0, vs0, d0, ds0, p0, q0, hargs, rfl, rfl, h0, r0⟩ := trodAll_cons hA
  obtain ⟨v1, vs1, d1, ds1, p1, q1, rfl, rfl, rfl, h1, r1⟩ := trodAll_cons r0
  obtain ⟨rfl, rfl, rfl⟩ := trodAll_nil r1
  obtain rfl : args = #[v0, v1] := by cases args; simp_all
  obtain ⟨rfl, rfl⟩ := trodVars_none hV0
  have hk : Rows.uptoSmall H ([d0, d1] ++ []) = true := hcond _ rfl
  have hk2 : Rows.uptoBulkAll ([d0, d1] ++ []) ≤ 1048576 := of_decide_eq_true hk
  simp only [List.append_nil, Rows.uptoBulkAll] at hk2
  obtain ⟨m0, e0, a0, l0⟩ := arg_pod (hval 0 25 v0 rfl rfl) h0
  obtain ⟨m1, e1, a1, l1⟩ := arg_pod (hval 1 25 v1 rfl rfl) h1
  have lt0 := trod_low h0
  have lt1 := trod_low h1
  subst e0 e1
  refine (hwalk m0 m1 W (utf8_tabs hL) a0 a1 (l0 (by omega)) (l1 (by omega))).mono ?_
  rintro e W' ⟨rfl, hg⟩
  have e1 : ((Rows.OpenSpec.upto Rows.specChecksSpec).at F).fn H ([d0, d1] ++ []) = { results := [.lit (.bool true)], args := [d0, d1] } := rfl
  refine ⟨_, rfl, _, _, _, [], p0 ++ (p1 ++ []), [], hW', ?_, ?_, ?_, hg.frame _, fun h => by cases h⟩
  · rw [e1]; exact trodAll_mk1 (shut_bool Tryd.underlying4 _)
  · rw [e1]; exact trodAll_cons_mk (Below.trod laidOut (by kernel_rfl) (of_decide_eq_true (by kernel_rfl)) h0 hg lt0) (trodAll_cons_mk (Below.trod laidOut (by kernel_rfl) (of_decide_eq_true (by kernel_rfl)) h1 hg lt1) trodAll_mk0)
  · rw [e1]; rfl
theorem checks_row (hwalk : WalkChecks) : Rows.SpecChecksUptoSaid :=
  OpenClaim.holds_of_cond 3 Tryd.f3 rfl rfl rfl rfl rfl rfl rfl ⟨rfl, rfl, rfl, rfl, rfl⟩ rfl rfl rfl rfl rfl (by kernel_rfl) Tryd.func3 (by kernel_rfl)
    (of_decide_eq_true (by kernel_rfl)) (by unfold Func.isWrapper; first | (rw [if_neg (of_decide_eq_false (by kernel_rfl))]; exact ⟨rfl, rfl⟩) | (rw [if_pos (by decide +kernel)]; kernel_rfl))
    (fun os started H enc _ F0 => by rw [OpenClaim.pre_eq_preRow]; exact lifted_checks hwalk os started H enc F0)
theorem plain_checks (f : FuncId) (fn : Func) (hf : Tryd.pinned.checked.prog.funcNamed "bosun/bosunlaw14.SpecChecks" = some f) (hfn : Tryd.pinned.checked.prog.funcs[f]? = some fn) :
    false = Tryd.pinned.checked.prog.looks [] ∧ ∀ (j : Nat) t, fn.params[j]? = some t → Tryd.pinned.checked.prog.wantsStandIn t = false := by
  obtain rfl : f = 3 := Option.some.inj ((show Tryd.prog.funcNamed "bosun/bosunlaw14.SpecChecks" = some 3 by kernel_rfl).symm.trans hf) |>.symm
  obtain rfl : fn = Tryd.f3 := (Option.some.inj (Tryd.func3.symm.trans hfn)).symm
  refine ⟨by kernel_rfl, fun j t ht => ?_⟩
  rw [Tryd.params3] at ht
  have h3 : t = 25 := by
    rcases j with _ | _ | j
    · simpa using ht.symm
    · simpa using ht.symm
    · simp at ht
  subst h3
  exact (show Tryd.prog.wantsStandIn 25 = false by kernel_rfl)
theorem checks_card (hwalk : WalkChecks) : Rows.SpecChecksUptoCardSaid :=
  Claim7.holds_tied_plain_at .later [] _ _ _ _ (checks_row hwalk) (fun _ h => by cases h) (by kernel_rfl) (fun _ h => by cases h) specChecksUpto_row_tie rfl ⟨rfl, rfl⟩ (by kernel_rfl) rfl plain_checks (by kernel_rfl)
end Go.Proofs.YtfhhmajkacjbgaaDoor
namespace Go.Proofs.YtfhhmajkacjbgaaDoor
open Go.ChangeShapes Go.WideShapes Go.ChangeAt Go.RowKit
attribute [local go_sem ↓] Go.wp_at_zero Go.wp_at_succ

theorem list50 (l : List Value) (h : l.length = 50) : ∃ t0 t1 t2 t3 t4 t5 t6 t7 t8 t9 t10 t11 t12 t13 t14 t15 t16 t17 t18 t19 t20 t21 t22 t23 t24 t25 t26 t27 t28 t29 t30 t31 t32 t33 t34 t35 t36 t37 t38 t39 t40 t41 t42 t43 t44 t45 t46 t47 t48 t49, l = [t0, t1, t2, t3, t4, t5, t6, t7, t8, t9, t10, t11, t12, t13, t14, t15, t16, t17, t18, t19, t20, t21, t22, t23, t24, t25, t26, t27, t28, t29, t30, t31, t32, t33, t34, t35, t36, t37, t38, t39, t40, t41, t42, t43, t44, t45, t46, t47, t48, t49] := by
  obtain ⟨t0, l0, rfl⟩ := List.exists_cons_of_length_eq_add_one h
  have h1 : l0.length = 49 := Nat.succ.inj h
  obtain ⟨t1, l1, rfl⟩ := List.exists_cons_of_length_eq_add_one h1
  have h2 : l1.length = 48 := Nat.succ.inj h1
  obtain ⟨t2, l2, rfl⟩ := List.exists_cons_of_length_eq_add_one h2
  have h3 : l2.length = 47 := Nat.succ.inj h2
  obtain ⟨t3, l3, rfl⟩ := List.exists_cons_of_length_eq_add_one h3
  have h4 : l3.length = 46 := Nat.succ.inj h3
  obtain ⟨t4, l4, rfl⟩ := List.exists_cons_of_length_eq_add_one h4
  have h5 : l4.length = 45 := Nat.succ.inj h4
  obtain ⟨t5, l5, rfl⟩ := List.exists_cons_of_length_eq_add_one h5
  have h6 : l5.length = 44 := Nat.succ.inj h5
  obtain ⟨t6, l6, rfl⟩ := List.exists_cons_of_length_eq_add_one h6
  have h7 : l6.length = 43 := Nat.succ.inj h6
  obtain ⟨t7, l7, rfl⟩ := List.exists_cons_of_length_eq_add_one h7
  have h8 : l7.length = 42 := Nat.succ.inj h7
  obtain ⟨t8, l8, rfl⟩ := List.exists_cons_of_length_eq_add_one h8
  have h9 : l8.length = 41 := Nat.succ.inj h8
  obtain ⟨t9, l9, rfl⟩ := List.exists_cons_of_length_eq_add_one h9
  have h10 : l9.length = 40 := Nat.succ.inj h9
  obtain ⟨t10, l10, rfl⟩ := List.exists_cons_of_length_eq_add_one h10
  have h11 : l10.length = 39 := Nat.succ.inj h10
  obtain ⟨t11, l11, rfl⟩ := List.exists_cons_of_length_eq_add_one h11
  have h12 : l11.length = 38 := Nat.succ.inj h11
  obtain ⟨t12, l12, rfl⟩ := List.exists_cons_of_length_eq_add_one h12
  have h13 : l12.length = 37 := Nat.succ.inj h12
  obtain ⟨t13, l13, rfl⟩ := List.exists_cons_of_length_eq_add_one h13
  have h14 : l13.length = 36 := Nat.succ.inj h13
  obtain ⟨t14, l14, rfl⟩ := List.exists_cons_of_length_eq_add_one h14
  have h15 : l14.length = 35 := Nat.succ.inj h14
  obtain ⟨t15, l15, rfl⟩ := List.exists_cons_of_length_eq_add_one h15
  have h16 : l15.length = 34 := Nat.succ.inj h15
  obtain ⟨t16, l16, rfl⟩ := List.exists_cons_of_length_eq_add_one h16
  have h17 : l16.length = 33 := Nat.succ.inj h16
  obtain ⟨t17, l17, rfl⟩ := List.exists_cons_of_length_eq_add_one h17
  have h18 : l17.length = 32 := Nat.succ.inj h17
  obtain ⟨t18, l18, rfl⟩ := List.exists_cons_of_length_eq_add_one h18
  have h19 : l18.length = 31 := Nat.succ.inj h18
  obtain ⟨t19, l19, rfl⟩ := List.exists_cons_of_length_eq_add_one h19
  have h20 : l19.length = 30 := Nat.succ.inj h19
  obtain ⟨t20, l20, rfl⟩ := List.exists_cons_of_length_eq_add_one h20
  have h21 : l20.length = 29 := Nat.succ.inj h20
  obtain ⟨t21, l21, rfl⟩ := List.exists_cons_of_length_eq_add_one h21
  have h22 : l21.length = 28 := Nat.succ.inj h21
  obtain ⟨t22, l22, rfl⟩ := List.exists_cons_of_length_eq_add_one h22
  have h23 : l22.length = 27 := Nat.succ.inj h22
  obtain ⟨t23, l23, rfl⟩ := List.exists_cons_of_length_eq_add_one h23
  have h24 : l23.length = 26 := Nat.succ.inj h23
  obtain ⟨t24, l24, rfl⟩ := List.exists_cons_of_length_eq_add_one h24
  have h25 : l24.length = 25 := Nat.succ.inj h24
  obtain ⟨t25, l25, rfl⟩ := List.exists_cons_of_length_eq_add_one h25
  have h26 : l25.length = 24 := Nat.succ.inj h25
  obtain ⟨t26, l26, rfl⟩ := List.exists_cons_of_length_eq_add_one h26
  have h27 : l26.length = 23 := Nat.succ.inj h26
  obtain ⟨t27, l27, rfl⟩ := List.exists_cons_of_length_eq_add_one h27
  have h28 : l27.length = 22 := Nat.succ.inj h27
  obtain ⟨t28, l28, rfl⟩ := List.exists_cons_of_length_eq_add_one h28
  have h29 : l28.length = 21 := Nat.succ.inj h28
  obtain ⟨t29, l29, rfl⟩ := List.exists_cons_of_length_eq_add_one h29
  have h30 : l29.length = 20 := Nat.succ.inj h29
  obtain ⟨t30, l30, rfl⟩ := List.exists_cons_of_length_eq_add_one h30
  have h31 : l30.length = 19 := Nat.succ.inj h30
  obtain ⟨t31, l31, rfl⟩ := List.exists_cons_of_length_eq_add_one h31
  have h32 : l31.length = 18 := Nat.succ.inj h31
  obtain ⟨t32, l32, rfl⟩ := List.exists_cons_of_length_eq_add_one h32
  have h33 : l32.length = 17 := Nat.succ.inj h32
  obtain ⟨t33, l33, rfl⟩ := List.exists_cons_of_length_eq_add_one h33
  have h34 : l33.length = 16 := Nat.succ.inj h33
  obtain ⟨t34, l34, rfl⟩ := List.exists_cons_of_length_eq_add_one h34
  have h35 : l34.length = 15 := Nat.succ.inj h34
  obtain ⟨t35, l35, rfl⟩ := List.exists_cons_of_length_eq_add_one h35
  have h36 : l35.length = 14 := Nat.succ.inj h35
  obtain ⟨t36, l36, rfl⟩ := List.exists_cons_of_length_eq_add_one h36
  have h37 : l36.length = 13 := Nat.succ.inj h36
  obtain ⟨t37, l37, rfl⟩ := List.exists_cons_of_length_eq_add_one h37
  have h38 : l37.length = 12 := Nat.succ.inj h37
  obtain ⟨t38, l38, rfl⟩ := List.exists_cons_of_length_eq_add_one h38
  have h39 : l38.length = 11 := Nat.succ.inj h38
  obtain ⟨t39, l39, rfl⟩ := List.exists_cons_of_length_eq_add_one h39
  have h40 : l39.length = 10 := Nat.succ.inj h39
  obtain ⟨t40, l40, rfl⟩ := List.exists_cons_of_length_eq_add_one h40
  have h41 : l40.length = 9 := Nat.succ.inj h40
  obtain ⟨t41, l41, rfl⟩ := List.exists_cons_of_length_eq_add_one h41
  have h42 : l41.length = 8 := Nat.succ.inj h41
  obtain ⟨t42, l42, rfl⟩ := List.exists_cons_of_length_eq_add_one h42
  have h43 : l42.length = 7 := Nat.succ.inj h42
  obtain ⟨t43, l43, rfl⟩ := List.exists_cons_of_length_eq_add_one h43
  have h44 : l43.length = 6 := Nat.succ.inj h43
  obtain ⟨t44, l44, rfl⟩ := List.exists_cons_of_length_eq_add_one h44
  have h45 : l44.length = 5 := Nat.succ.inj h44
  obtain ⟨t45, l45, rfl⟩ := List.exists_cons_of_length_eq_add_one h45
  have h46 : l45.length = 4 := Nat.succ.inj h45
  obtain ⟨t46, l46, rfl⟩ := List.exists_cons_of_length_eq_add_one h46
  have h47 : l46.length = 3 := Nat.succ.inj h46
  obtain ⟨t47, l47, rfl⟩ := List.exists_cons_of_length_eq_add_one h47
  have h48 : l47.length = 2 := Nat.succ.inj h47
  obtain ⟨t48, l48, rfl⟩ := List.exists_cons_of_length_eq_add_one h48
  have h49 : l48.length = 1 := Nat.succ.inj h48
  obtain ⟨t49, l49, rfl⟩ := List.exists_cons_of_length_eq_add_one h49
  have h50 : l49.length = 0 := Nat.succ.inj h49
  obtain rfl := List.length_eq_zero_iff.1 h50
  exact ⟨t0, t1, t2, t3, t4, t5, t6, t7, t8, t9, t10, t11, t12, t13, t14, t15, t16, t17, t18, t19, t20, t21, t22, t23, t24, t25, t26, t27, t28, t29, t30, t31, t32, t33, t34, t35, t36, t37, t38, t39, t40, t41, t42, t43, t44, t45, t46, t47, t48, t49, rfl⟩
theorem act50 {b c zx zy : Nat} (a : Act) (fs : a.tmps.size = 50) (fd : a.defers = []) (e2 : a.eval (.tmp 2) = .pointer (some ⟨b, 0, none⟩)) (e3 : a.eval (.tmp 3) = .pointer (some ⟨c, 0, none⟩)) (e5 : a.eval (.tmp 5) = .pointer (some ⟨zx, 0, none⟩)) (e6 : a.eval (.tmp 6) = .pointer (some ⟨zy, 0, none⟩)) :
    ∃ t0 t1 t4 t7 t8 t9 t10 t11 t12 t13 t14 t15 t16 t17 t18 t19 t20 t21 t22 t23 t24 t25 t26 t27 t28 t29 t30 t31 t32 t33 t34 t35 t36 t37 t38 t39 t40 t41 t42 t43 t44 t45 t46 t47 t48 t49, a = { tmps := #[t0, t1, .pointer (some ⟨b, 0, none⟩), .pointer (some ⟨c, 0, none⟩), t4, .pointer (some ⟨zx, 0, none⟩), .pointer (some ⟨zy, 0, none⟩), t7, t8, t9, t10, t11, t12, t13, t14, t15, t16, t17, t18, t19, t20, t21, t22, t23, t24, t25, t26, t27, t28, t29, t30, t31, t32, t33, t34, t35, t36, t37, t38, t39, t40, t41, t42, t43, t44, t45, t46, t47, t48, t49], defers := [] } := by
  obtain ⟨⟨l⟩, ds⟩ := a
  obtain ⟨t0, t1, t2, t3, t4, t5, t6, t7, t8, t9, t10, t11, t12, t13, t14, t15, t16, t17, t18, t19, t20, t21, t22, t23, t24, t25, t26, t27, t28, t29, t30, t31, t32, t33, t34, t35, t36, t37, t38, t39, t40, t41, t42, t43, t44, t45, t46, t47, t48, t49, rfl⟩ := list50 l fs
  obtain rfl : ds = [] := fd
  obtain rfl : t2 = _ := e2
  obtain rfl : t3 = _ := e3
  obtain rfl : t5 = _ := e5
  obtain rfl : t6 = _ := e6
  exact ⟨t0, t1, t4, t7, t8, t9, t10, t11, t12, t13, t14, t15, t16, t17, t18, t19, t20, t21, t22, t23, t24, t25, t26, t27, t28, t29, t30, t31, t32, t33, t34, t35, t36, t37, t38, t39, t40, t41, t42, t43, t44, t45, t46, t47, t48, t49, rfl⟩
set_option maxRecDepth 100000 in
set_option maxHeartbeats 40000000 in
theorem checks_walk : WalkChecks := by
  intro p q w hT hp hq lp lq
  have HSM := Lib.hid (fun W (f : Fresh w W) => podSmall_any p W (hp.move f) lp)
  have HSM' := Lib.hid (fun W (f : Fresh w W) => podSmall_any q W (hq.move f) lq)
  have HAW := Lib.hid (fun W (f : Fresh w W) => awake14_any W (Tabs.move hT f))
  have HP := Lib.hid hp
  have HQ := Lib.hid hq
  have HT := Lib.hid hT
  have HLP := Lib.hid lp
  have HLQ := Lib.hid lq
  have HOF := Lib.hid (fun W (f : Fresh w W) => of_own p w W hp f lp)
  have HOF' := Lib.hid (fun W (f : Fresh w W) => of_own q w W hq f lq)
  have HSP := Lib.hid (fun h : weight p.pd ≤ 20000 => pod_sml h)
  have HSQ := Lib.hid (fun h : weight q.pd ≤ 20000 => pod_sml h)
  obtain ⟨pd0, hpd0⟩ : ∃ x, x = p.pd := ⟨_, rfl⟩
  obtain ⟨qd0, hqd0⟩ : ∃ x, x = q.pd := ⟨_, rfl⟩
  have HPD := Lib.hid hpd0
  have HQD := Lib.hid hqd0
  rw [← hpd0] at HSM HOF HSP
  rw [← hqd0] at HSM' HOF' HSQ
  clear hT hp hq lp lq hpd0 hqd0
  obtain ⟨name, ns, rs, gr, ho, a, cap, cs⟩ := p
  obtain ⟨name', ns', rs', gr', ho', a', cap', cs'⟩ := q
  have HX := Lib.hid (two_boxes w (.cells #[.string name, .string ns, .int .i64 rs, .int .i64 gr, .bool ho, .slice a cs.length cap] 25) (.cells #[.string name', .string ns', .int .i64 rs', .int .i64 gr', .bool ho', .slice a' cs'.length cap'] 25))
  dsimp only [PM.val] at HSM HSM' HOF HOF' ⊢
  generalize weight pd0 = wp at *
  generalize weight qd0 = wq at *
  by_cases h1 : wp ≤ 20000
  case neg =>
    rw [decide_eq_false h1] at HSM
    clear h1 HSM' HOF HOF' HP HQ HSP HSQ
    go_enter Tryd.func3, Tryd.ntmps3
    go_wp2_with (fail)
    generalize (w.alloc (.cells #[.string name, .string ns, .int .i64 rs, .int .i64 gr, .bool ho, .slice a cs.length cap] 25)).alloc (.cells #[.string name', .string ns', .int .i64 rs', .int .i64 gr', .bool ho', .slice a' cs'.length cap'] 25) = W0 at *
    obtain ⟨x1, x2, x3, _⟩ := HX.out
    refine (HSM.out _ x3).mono ?_
    rintro e W1 ⟨rfl, hf⟩
    have HF1 := Lib.hid (x3.trans hf)
    clear hf x1 x2 x3
    go_wp2_with (fail)
    refine (HAW.out _ HF1.out).mono ?_
    rintro e W2 ⟨rfl, hf⟩
    have HF2 := Lib.hid (HF1.out.trans hf)
    clear hf
    go_wp2
    go_ret
    exact ⟨rfl, HF2.out⟩
  rw [decide_eq_true h1] at HSM
  by_cases h2 : wq ≤ 20000
  case neg =>
    rw [decide_eq_false h2] at HSM'
    clear h1 h2 HOF HOF' HP HQ HSP HSQ
    go_enter Tryd.func3, Tryd.ntmps3
    go_wp2_with (fail)
    generalize (w.alloc (.cells #[.string name, .string ns, .int .i64 rs, .int .i64 gr, .bool ho, .slice a cs.length cap] 25)).alloc (.cells #[.string name', .string ns', .int .i64 rs', .int .i64 gr', .bool ho', .slice a' cs'.length cap'] 25) = W0 at *
    obtain ⟨x1, x2, x3, _⟩ := HX.out
    generalize w.heap.size = b at *
    have X2 := Lib.hid x2
    refine (HSM.out _ x3).mono ?_
    rintro e W1 ⟨rfl, hf⟩
    have HF1 := Lib.hid (x3.trans hf)
    obtain ⟨⟨q0, q1, q2, q3, q4, q5⟩, _⟩ := box6p (hf.at X2.out)
    clear hf x1 x2 x3
    go_wp2_with (fail)
    refine (HSM'.out _ HF1.out).mono ?_
    rintro e W1 ⟨rfl, hf⟩
    have HF2 := Lib.hid (HF1.out.trans hf)
    clear hf q0 q1 q2 q3 q4 q5
    go_wp2_with (fail)
    refine (HAW.out _ HF2.out).mono ?_
    rintro e W2 ⟨rfl, hf⟩
    have HF3 := Lib.hid (HF2.out.trans hf)
    clear hf
    go_wp2
    go_ret
    exact ⟨rfl, HF3.out⟩
  rw [decide_eq_true h2] at HSM'
  have HS1 := Lib.hid (HSP.out h1)
  have HS2 := Lib.hid (HSQ.out h2)
  clear h1 h2 HSP HSQ
  go_enter Tryd.func3, Tryd.ntmps3
  go_wp2_with (fail)
  generalize (w.alloc (.cells #[.string name, .string ns, .int .i64 rs, .int .i64 gr, .bool ho, .slice a cs.length cap] 25)).alloc (.cells #[.string name', .string ns', .int .i64 rs', .int .i64 gr', .bool ho', .slice a' cs'.length cap'] 25) = W0 at *
  obtain ⟨x1, x2, x3, _⟩ := HX.out
  obtain ⟨b, hb⟩ : ∃ b, b = w.heap.size := ⟨_, rfl⟩
  rw [← hb] at x1 x2 ⊢
  clear hb HX
  have X1 := Lib.hid x1
  have X2 := Lib.hid x2
  have HF0 := Lib.hid x3
  clear x1 x2 x3
  refine (HSM.out _ HF0.out).mono ?_
  rintro e W1 ⟨rfl, hf⟩
  have HF1 := Lib.hid hf
  obtain ⟨⟨q0, q1, q2, q3, q4, q5⟩, _⟩ := box6p (hf.at X2.out)
  clear hf
  go_wp2_with (fail)
  refine (HSM'.out _ (HF0.out.trans HF1.out)).mono ?_
  rintro e W2 ⟨rfl, hf⟩
  have HF2 := Lib.hid (HF1.out.trans hf)
  have HFW := Lib.hid (HF0.out.trans HF2.out)
  clear hf q0 q1 q2 q3 q4 q5 HF1 HSM HSM'
  go_wp2_with (fail)
  rename_i K hK
  refine wp_region_any rfl ?_
  refine region3 (w0 := w) (p := (PM.mk name ns rs gr ho a cap cs)) (q := (PM.mk name' ns' rs' gr' ho' a' cap' cs')) (b := b) (c := b + 1) HP.out HQ.out HLP.out HLQ.out rfl rfl rfl rfl (HF2.out.at X1.out) (HF2.out.at X2.out) HFW.out.drew ?_
  intro a5 W5 m n zx zy fs fd e2 e3 e5 e6 hm hn hR
  refine hK a5 W5 ?_
  obtain ⟨t0, t1, t4, t7, t8, t9, t10, t11, t12, t13, t14, t15, t16, t17, t18, t19, t20, t21, t22, t23, t24, t25, t26, t27, t28, t29, t30, t31, t32, t33, t34, t35, t36, t37, t38, t39, t40, t41, t42, t43, t44, t45, t46, t47, t48, t49, rfl⟩ := act50 a5 fs fd e2 e3 e5 e6
  exact checks_tail _ (by kernel_rfl) _ w W5 b (b + 1) zx zy (PM.mk name ns rs gr ho a cap cs) (PM.mk name' ns' rs' gr' ho' a' cap' cs') m n t0 t1 t4 t7 t8 t9 t10 t11 t12 t13 t14 t15 t16 t17 t18 t19 t20 t21 t22 t23 t24 t25 t26 t27 t28 t29 t30 t31 t32 t33 t34 t35 t36 t37 t38 t39 t40 t41 t42 t43 t44 t45 t46 t47 t48 t49 HT HP HQ HLP HLQ (Lib.hid (HPD.out ▸ HS1.out)) (Lib.hid hm) (Lib.hid hn) (Lib.hid hR.ma) (Lib.hid hR.na) (Lib.hid hR.fr) (Lib.hid hR.h1) (Lib.hid hR.h2) (Lib.hid hR.h3) (Lib.hid hR.h4) (Lib.hid (fun _ _ h => h))
end Go.Proofs.YtfhhmajkacjbgaaDoor
namespace Go.Proofs.YtfhhmajkacjbgaaDoor
theorem specchecks : Rows.SpecChecksUptoCardSaid := checks_card checks_walk
end Go.Proofs.YtfhhmajkacjbgaaDoor
