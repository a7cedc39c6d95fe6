/-
  Pods: what is wrong with one, its defaults, whether two are alike. No call.
-/
import Derived.Test.YtfhhmajkacjbgaaDoorDMath
import Derived.Lib.ValidLaws
namespace Go.Proofs.YtfhhmajkacjbgaaDoor

/-- A container; its texts as they are. -/
structure Ct where
  name : ByteArray
  image : ByteArray
  cmd : List ByteArray
  ports : List (Int × Int)
  cpu : Int
  mem : Int
  env : List (ByteArray × ByteArray)
/-- A pod. -/
structure Pd where
  name : ByteArray
  ns : ByteArray
  restart : Int
  grace : Int
  host : Bool
  cs : List Ct

/-! ### names -/
def inI (c : UInt8) : Bool := smallB c || (capB c || (digB c || (c == 46 || (c == 95 || (c == 45 || (c == 47 || (c == 58 || c == 64)))))))
def varB (l : List UInt8) : Bool := (decide (1 ≤ l.length) && decide (l.length ≤ 63)) && (!digB (l.headD 0) && l.all inV)
def imgB (l : List UInt8) : Bool := (decide (1 ≤ l.length) && decide (l.length ≤ 255)) && ((smallB (l.headD 0) || digB (l.headD 0)) && l.all inI)

/-! ### what is wrong: the code -/
def textE (s : ByteArray) : Int := if Lib.validD s.data.toList = true then (if 4096 < s.size then 2 else 0) else 10
def memT (s : ByteArray) (l : List ByteArray) : Bool := l.any fun t => decide (t = s)
def memP (s : Int × Int) (l : List (Int × Int)) : Bool := l.any fun t => decide (t = s)
def cmdE : List ByteArray → Int
  | [] => 0
  | s :: r => if textE s = 0 then cmdE r else textE s
def portBad (p : Int × Int) : Bool := decide (p.1 < 1) || (decide (65535 < p.1) || (decide (p.2 < 0) || decide (1 < p.2)))
def portsE : List (Int × Int) → List (Int × Int) → Int
  | _, [] => 0
  | ahead, p :: r => if portBad p = true then 7 else if memP p ahead = true then 8 else portsE (ahead ++ [p]) r
def envE : List ByteArray → List (ByteArray × ByteArray) → Int
  | _, [] => 0
  | ahead, v :: r => if varB v.1.data.toList = true then (if memT v.1 ahead = true then 8 else if textE v.2 = 0 then envE (ahead ++ [v.1]) r else textE v.2) else 13
def manyE (c : Ct) : Bool := decide (16 < c.cmd.length) || (decide (16 < c.ports.length) || decide (16 < c.env.length))
def rangeE (c : Ct) : Bool := decide (c.cpu < 1) || (decide (64000 < c.cpu) || (decide (c.mem < 1) || decide (1048576 < c.mem)))
/-- Behind its name. -/
def restE (c : Ct) : Int :=
  if imgB c.image.data.toList = true then
    (if manyE c = true then 18 else if rangeE c = true then 7 else if cmdE c.cmd = 0 then (if portsE [] c.ports = 0 then envE [] c.env else portsE [] c.ports) else cmdE c.cmd)
  else 6
def ctE (ahead : List ByteArray) (c : Ct) : Int := if labB c.name.data.toList = true then (if memT c.name ahead = true then 8 else restE c) else 13
def csE : List ByteArray → List Ct → Int
  | _, [] => 0
  | ahead, c :: r => if ctE ahead c = 0 then csE (ahead ++ [c.name]) r else ctE ahead c
def headE (p : Pd) : Int :=
  if nameB p.name.data.toList = true ∧ labB p.ns.data.toList = true then
    (if p.restart < 0 ∨ 2 < p.restart ∨ p.grace < 1 ∨ 3600 < p.grace then 7 else if p.cs.length = 0 then 16 else if 16 < p.cs.length then 18 else 0)
  else 13
def podE (p : Pd) : Int := if headE p = 0 then csE [] p.cs else headE p

/-! ### defaults -/
def nsDef : ByteArray := ⟨#[100, 101, 102, 97, 117, 108, 116]⟩
def defC (c : Ct) : Ct := { c with cpu := if c.cpu = 0 then 100 else c.cpu, mem := if c.mem = 0 then 64 else c.mem }
def defP (p : Pd) : Pd := { p with ns := if p.ns.size = 0 then nsDef else p.ns, grace := if p.grace = 0 then 30 else p.grace, cs := p.cs.map defC }
theorem defC_twice (c : Ct) : defC (defC c) = defC c := by
  unfold defC
  dsimp only
  congr 1
  · split <;> simp_all
  · split <;> simp_all
theorem defP_twice (p : Pd) : defP (defP p) = defP p := by
  unfold defP
  dsimp only
  have h1 : (List.map defC (List.map defC p.cs)) = List.map defC p.cs := by
    rw [List.map_map]
    exact List.map_congr_left (fun c _ => defC_twice c)
  rw [h1]
  congr 1
  · by_cases h : p.ns.size = 0
    · rw [if_pos h, if_neg (by decide)]
    · rw [if_neg h, if_neg h]
  · split <;> simp_all
theorem csE_def : ∀ (r : List Ct) (ahead : List ByteArray), csE ahead r = 0 → r.map defC = r
  | [], _, _ => rfl
  | c :: r, ahead, h => by
    rw [csE] at h
    by_cases h0 : ctE ahead c = 0
    · rw [if_pos h0] at h
      rw [List.map_cons, csE_def r _ h]
      congr 1
      have hr : rangeE c = false := by
        cases hr : rangeE c with
        | false => rfl
        | true =>
          exfalso
          unfold ctE restE at h0
          split at h0
          · split at h0
            · omega
            · split at h0
              · split at h0
                · omega
                · simp [hr] at h0
              · omega
          · omega
      unfold rangeE at hr
      simp only [Bool.or_eq_false_iff, decide_eq_false_iff_not] at hr
      unfold defC
      rw [if_neg (by omega), if_neg (by omega)]
    · rw [if_neg h0] at h; exact absurd h h0
theorem podE_def (p : Pd) (h : podE p = 0) : defP p = p := by
  unfold podE at h
  by_cases h0 : headE p = 0
  · rw [if_pos h0] at h
    unfold headE at h0
    split at h0
    · rename_i hn
      split at h0
      · omega
      · unfold defP
        rw [csE_def _ _ h, if_neg (by
          have h1 := (labB_len hn.2).1
          have h2 : p.ns.data.toList.length = p.ns.size := by simp
          omega), if_neg (by omega)]
    · omega
  · rw [if_neg h0] at h; exact absurd h h0

/-! ### alike -/
def sameC (a b : Ct) : Bool := decide (a.name = b.name) && (decide (a.image = b.image) && (decide (a.cmd = b.cmd) && (decide (a.ports = b.ports) && (decide (a.cpu = b.cpu) && (decide (a.mem = b.mem) && decide (a.env = b.env))))))
theorem sameC_eq (a b : Ct) : sameC a b = true ↔ a = b := by
  obtain ⟨n, i, c, p, u, m, e⟩ := a
  obtain ⟨n', i', c', p', u', m', e'⟩ := b
  unfold sameC
  simp only [Bool.and_eq_true, decide_eq_true_eq, Ct.mk.injEq]
def sameL : List Ct → List Ct → Bool
  | [], [] => true
  | a :: r, b :: t => sameC a b && sameL r t
  | _, _ => false
theorem sameL_eq : ∀ (r t : List Ct), sameL r t = true ↔ r = t
  | [], [] => by simp [sameL]
  | [], b :: t => by simp [sameL]
  | a :: r, [] => by simp [sameL]
  | a :: r, b :: t => by
    rw [sameL, Bool.and_eq_true, sameC_eq, sameL_eq r t, List.cons.injEq]
def sameP (a b : Pd) : Bool := decide (a.name = b.name) && (decide (a.ns = b.ns) && (decide (a.restart = b.restart) && (decide (a.grace = b.grace) && (decide (a.host = b.host) && sameL a.cs b.cs))))
theorem sameP_eq (a b : Pd) : sameP a b = true ↔ a = b := by
  obtain ⟨n, s, r, g, h, c⟩ := a
  obtain ⟨n', s', r', g', h', c'⟩ := b
  unfold sameP
  simp only [Bool.and_eq_true, decide_eq_true_eq, sameL_eq, Pd.mk.injEq]
theorem sameP_refl (a : Pd) : sameP a a = true := (sameP_eq a a).2 rfl
end Go.Proofs.YtfhhmajkacjbgaaDoor
