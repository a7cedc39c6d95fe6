/-
  States of version 3: what is wrong with one, its bytes. No call.
  States of version 2: what is wrong with one, its bytes. No call.
  States of version 1 in memory.
  States of version 2 in memory.
  The state of version 1 of bytes: what is taken, and that it is what was put. No call.
-/
import Derived.Test.YtldncgelghcjeaaGreatDoorCat01
import Derived.Test.YtldncgelghcjeaaGreatDoorCat04
set_option linter.unusedSimpArgs false
set_option linter.unusedVariables false
namespace Go.Proofs.YtldncgelghcjeaaGreatDoor.K
open Go.ChangeShapes Go.WideShapes Go.ChangeAt Go.RowKit

structure P3 where
  file : ByteArray
  pd : Pd
def P3.eqB (p q : P3) : Bool := decide (p.file = q.file) && sameP p.pd q.pd
theorem P3.eqB_self (p : P3) : P3.eqB p p = true := by simp [P3.eqB, sameP_refl]
def eq3 : List P3 → List P3 → Bool
  | [], [] => true
  | p :: l, q :: m => P3.eqB p q && eq3 l m
  | _, _ => false
theorem eq3_len : ∀ (a b : List P3), a.length ≠ b.length → eq3 a b = false
  | [], [], h => absurd rfl h
  | [], _ :: _, _ => rfl
  | _ :: _, [], _ => rfl
  | x :: a, y :: b, h => by
    rw [eq3, eq3_len a b (fun e => h (by simp [e])), Bool.and_false]
theorem eq3_self : ∀ a : List P3, eq3 a a = true
  | [] => rfl
  | p :: l => by rw [eq3, eq3_self l, P3.eqB_self]; rfl
theorem eq3_drop {a b : List P3} {k : Nat} (h : k < a.length) (h' : k < b.length) : eq3 (a.drop k) (b.drop k) = (P3.eqB a[k] b[k] && eq3 (a.drop (k + 1)) (b.drop (k + 1))) := by
  rw [List.drop_eq_getElem_cons h, List.drop_eq_getElem_cons h', eq3]
def same3 (s t : Int) (l m : List P3) : Bool := decide (s = t) && eq3 l m
theorem same3_self (q : Int) (L : List P3) : same3 q q L L = true := by
  unfold same3
  rw [eq3_self, decide_eq_true rfl]; rfl

/-! ### what is wrong -/
def f3E (p : P3) (ahead : ByteArray) : Int := if fileB p.file = true then (if leS p.file ahead = true then 6 else podE p.pd) else 13
def chk3F : ByteArray → List P3 → Int
  | _, [] => 0
  | a, p :: l => if f3E p a = 0 then chk3F p.file l else f3E p a
def chk3 (l : List P3) : Int := if 1024 < l.length then 18 else chk3F ⟨#[]⟩ l
def ahead3 (l : List P3) (k : Nat) : ByteArray := if k = 0 then ⟨#[]⟩ else (l.map (·.file)).getD (k - 1) ⟨#[]⟩
theorem ahead3_succ (l : List P3) (k : Nat) (h : k < l.length) : ahead3 l (k + 1) = l[k].file := by
  unfold ahead3
  rw [if_neg (by omega), Nat.add_sub_cancel, List.getD_eq_getElem?_getD, List.getElem?_map, List.getElem?_eq_getElem h]; rfl
theorem chk3F_drop {l : List P3} {k : Nat} (h : k < l.length) (a : ByteArray) : chk3F a (l.drop k) = if f3E l[k] a = 0 then chk3F l[k].file (l.drop (k + 1)) else f3E l[k] a := by
  rw [List.drop_eq_getElem_cons h, chk3F]
/-- What may be is not great. -/
structure CtOk (c : Ct) : Prop where
  name : c.name.size ≤ 63
  image : c.image.size ≤ 255
  lc : c.cmd.length ≤ 16
  lp : c.ports.length ≤ 16
  le : c.env.length ≤ 16
  cpu0 : 1 ≤ c.cpu
  cpu1 : c.cpu ≤ 64000
  mem0 : 1 ≤ c.mem
  mem1 : c.mem ≤ 1048576
  cmd : ∀ s ∈ c.cmd, s.size ≤ 4096
  ports : ∀ p ∈ c.ports, (1 ≤ p.1 ∧ p.1 ≤ 65535) ∧ 0 ≤ p.2 ∧ p.2 ≤ 1
  env : ∀ v ∈ c.env, v.1.size ≤ 63 ∧ v.2.size ≤ 4096
structure PdOk (p : Pd) : Prop where
  name : p.name.size ≤ 253
  ns : p.ns.size ≤ 63
  r0 : 0 ≤ p.restart
  r1 : p.restart ≤ 2
  g0 : 1 ≤ p.grace
  g1 : p.grace ≤ 3600
  l0 : p.cs.length ≠ 0
  l1 : p.cs.length ≤ 16
  cs : ∀ c ∈ p.cs, CtOk c
theorem textE_ok {s : ByteArray} (h : textE s = 0) : s.size ≤ 4096 := by
  unfold textE at h
  split at h
  · split at h
    · simp at h
    · omega
  · simp at h
theorem cmdE_ok : ∀ (l : List ByteArray), cmdE l = 0 → ∀ s ∈ l, s.size ≤ 4096
  | [], _, s, hs => by simp at hs
  | t :: l, h, s, hs => by
    rw [cmdE] at h
    split at h
    · rename_i h0
      rcases List.mem_cons.1 hs with rfl | hs
      · exact textE_ok h0
      · exact cmdE_ok l h s hs
    · rename_i h0; exact absurd h h0
theorem portsE_ok : ∀ (l ah : List (Int × Int)), portsE ah l = 0 → ∀ p ∈ l, (1 ≤ p.1 ∧ p.1 ≤ 65535) ∧ 0 ≤ p.2 ∧ p.2 ≤ 1
  | [], _, _, p, hp => by simp at hp
  | q :: l, ah, h, p, hp => by
    rw [portsE] at h
    split at h
    · simp at h
    split at h
    · simp at h
    · rename_i h0 _
      rcases List.mem_cons.1 hp with rfl | hp
      · unfold portBad at h0
        simp at h0
        omega
      · exact portsE_ok l _ h p hp
theorem varB_len {l : List UInt8} (h : varB l = true) : l.length ≤ 63 := by
  unfold varB at h
  simp only [Bool.and_eq_true, decide_eq_true_eq] at h
  exact h.1.2
theorem envE_ok : ∀ (l : List (ByteArray × ByteArray)) (ah : List ByteArray), envE ah l = 0 → ∀ v ∈ l, v.1.size ≤ 63 ∧ v.2.size ≤ 4096
  | [], _, _, v, hv => by simp at hv
  | u :: l, ah, h, v, hv => by
    rw [envE] at h
    split at h
    · rename_i h0
      split at h
      · simp at h
      split at h
      · rename_i h1
        rcases List.mem_cons.1 hv with rfl | hv
        · have := varB_len h0
          refine ⟨by rw [Lib.size_eq]; exact this, textE_ok h1⟩
        · exact envE_ok l _ h v hv
      · rename_i h1; exact absurd h h1
    · simp at h
theorem restE_ok {c : Ct} (hn : c.name.size ≤ 63) (h : restE c = 0) : CtOk c := by
  unfold restE at h
  split at h
  · rename_i hi
    split at h
    · simp at h
    split at h
    · simp at h
    split at h
    · rename_i hm hr hc
      split at h
      · rename_i hp
        have h1 := imgB_len hi
        unfold manyE at hm
        unfold rangeE at hr
        simp at hm hr
        exact ⟨hn, by rw [Lib.size_eq]; omega, by omega, by omega, by omega, by omega, by omega, by omega, by omega, cmdE_ok _ hc, portsE_ok _ _ hp, envE_ok _ _ h⟩
      · rename_i hp; exact absurd h hp
    · rename_i hc; exact absurd h hc
  · simp at h
theorem ctE_ok {ah : List ByteArray} {c : Ct} (h : ctE ah c = 0) : CtOk c := by
  unfold ctE at h
  split at h
  · rename_i h1
    split at h
    · simp at h
    · have := (labB_len h1).2
      exact restE_ok (by rw [Lib.size_eq]; omega) h
  · simp at h
theorem csE_ok : ∀ (l : List Ct) (ah : List ByteArray), csE ah l = 0 → ∀ c ∈ l, CtOk c
  | [], _, _, c, hc => by simp at hc
  | d :: l, ah, h, c, hc => by
    rw [csE] at h
    split at h
    · rename_i h0
      rcases List.mem_cons.1 hc with rfl | hc
      · exact ctE_ok h0
      · exact csE_ok l _ h c hc
    · rename_i h0; exact absurd h h0
theorem podE_ok {p : Pd} (h : podE p = 0) : PdOk p := by
  unfold podE at h
  split at h
  · rename_i h0
    unfold headE at h0
    split at h0
    · rename_i h1
      split at h0
      · simp at h0
      split at h0
      · simp at h0
      split at h0
      · simp at h0
      rename_i h2 h3 h4
      have h5 := nameB_len h1.1
      have h6 := (labB_len h1.2).2
      exact ⟨by rw [Lib.size_eq]; omega, by rw [Lib.size_eq]; omega, by omega, by omega, by omega, by omega, h3, by omega, csE_ok _ _ h⟩
    · simp at h0
  · rename_i h0; exact absurd h h0
structure P3.Ok (p : P3) : Prop where
  file : p.file.size ≤ 64
  pd : PdOk p.pd
theorem chk3F_ok : ∀ (l : List P3) (a : ByteArray), chk3F a l = 0 → ∀ p ∈ l, p.Ok
  | [], _, _, p, hp => by simp at hp
  | q :: l, a, h, p, hp => by
    rw [chk3F] at h
    split at h
    · rename_i h0
      rcases List.mem_cons.1 hp with rfl | hp
      · unfold f3E at h0
        split at h0
        · rename_i h1
          split at h0
          · simp at h0
          · exact ⟨(file_one h1).2, podE_ok h0⟩
        · simp at h0
      · exact chk3F_ok l _ h p hp
    · rename_i h0; exact absurd h h0
theorem chk3_ok {l : List P3} (h : chk3 l = 0) : l.length ≤ 1024 ∧ ∀ p ∈ l, p.Ok := by
  unfold chk3 at h
  split at h
  · simp at h
  · exact ⟨by omega, chk3F_ok l _ h⟩

/-! ### bytes -/
def portL (p : Int × Int) : List UInt8 := be 2 p.1.toNat ++ be 1 p.2.toNat
def envL (v : ByteArray × ByteArray) : List UInt8 := txtL v.1 ++ txtL v.2
def ct3L (c : Ct) : List UInt8 :=
  txtL c.name ++ (txtL c.image ++ (be 1 c.cmd.length ++ (c.cmd.flatMap txtL ++ (be 1 c.ports.length ++ (c.ports.flatMap portL ++ (be 4 c.cpu.toNat ++ (be 4 c.mem.toNat ++ (be 1 c.env.length ++ c.env.flatMap envL))))))))
def pd3L (p : Pd) : List UInt8 :=
  txtL p.name ++ (txtL p.ns ++ (be 1 p.restart.toNat ++ (be 2 p.grace.toNat ++ (be 1 p.host.toNat ++ (be 1 p.cs.length ++ p.cs.flatMap ct3L)))))
def pod3L (p : P3) : List UInt8 := txtL p.file ++ pd3L p.pd
def enc3L (seq : Int) (l : List P3) : List UInt8 := be 8 seq.toNat ++ (be 2 l.length ++ l.flatMap pod3L)
theorem ct3L_len {c : Ct} (h : CtOk c) : (ct3L c).length ≤ 140000 := by
  have h1 := flat_le txtL 4098 c.cmd (fun s hs => by rw [txtL_len]; have := h.cmd s hs; omega)
  have h2 := flat_le portL 3 c.ports (fun s _ => by simp only [portL, List.length_append, be_length]; omega)
  have h3 := flat_le envL 4163 c.env (fun s hs => by simp only [envL, List.length_append, txtL_len]; have := h.env s hs; omega)
  have e1 : c.cmd.length * 4098 ≤ 16 * 4098 := Nat.mul_le_mul h.lc (Nat.le_refl _)
  have e2 : c.ports.length * 3 ≤ 16 * 3 := Nat.mul_le_mul h.lp (Nat.le_refl _)
  have e3 : c.env.length * 4163 ≤ 16 * 4163 := Nat.mul_le_mul h.le (Nat.le_refl _)
  have := h.name; have := h.image
  simp only [ct3L, List.length_append, txtL_len, be_length]
  omega
theorem pod3L_len {p : P3} (h : p.Ok) : (pod3L p).length ≤ 2250000 := by
  have h1 := flat_le ct3L 140000 p.pd.cs (fun c hc => ct3L_len (h.pd.cs c hc))
  have e1 : p.pd.cs.length * 140000 ≤ 16 * 140000 := Nat.mul_le_mul h.pd.l1 (Nat.le_refl _)
  have := h.file; have := h.pd.name; have := h.pd.ns
  simp only [pod3L, pd3L, List.length_append, txtL_len, be_length]
  omega
end Go.Proofs.YtldncgelghcjeaaGreatDoor.K
namespace Go.Proofs.YtldncgelghcjeaaGreatDoor.K
open Go.ChangeShapes Go.WideShapes Go.ChangeAt Go.RowKit

structure C2 where
  name : ByteArray
  image : ByteArray
structure P2 where
  file : ByteArray
  name : ByteArray
  ns : ByteArray
  r : Int
  g : Int
  cs : List C2
theorem C2.ext {p q : C2} (h1 : p.name = q.name) (h2 : p.image = q.image) : p = q := by
  cases p; cases q; simp_all
def C2.eqB (p q : C2) : Bool := decide (p.name = q.name) && decide (p.image = q.image)
theorem C2.eqB_iff (p q : C2) : C2.eqB p q = true ↔ p = q := by
  unfold C2.eqB
  simp only [Bool.and_eq_true, decide_eq_true_eq]
  exact ⟨fun ⟨a, b⟩ => C2.ext a b, fun h => by subst h; exact ⟨rfl, rfl⟩⟩
def eqC : List C2 → List C2 → Bool
  | [], [] => true
  | p :: l, q :: m => C2.eqB p q && eqC l m
  | _, _ => false
theorem eqC_len : ∀ (a b : List C2), a.length ≠ b.length → eqC a b = false
  | [], [], h => absurd rfl h
  | [], _ :: _, _ => rfl
  | _ :: _, [], _ => rfl
  | x :: a, y :: b, h => by
    rw [eqC, eqC_len a b (fun e => h (by simp [e])), Bool.and_false]
theorem eqC_self : ∀ a : List C2, eqC a a = true
  | [] => rfl
  | p :: l => by rw [eqC, eqC_self l, (C2.eqB_iff p p).2 rfl]; rfl
theorem eqC_drop {a b : List C2} {k : Nat} (h : k < a.length) (h' : k < b.length) : eqC (a.drop k) (b.drop k) = (C2.eqB a[k] b[k] && eqC (a.drop (k + 1)) (b.drop (k + 1))) := by
  rw [List.drop_eq_getElem_cons h, List.drop_eq_getElem_cons h', eqC]
def P2.eqB (p q : P2) : Bool := decide (p.file = q.file) && (decide (p.name = q.name) && (decide (p.ns = q.ns) && (decide (p.r = q.r) && (decide (p.g = q.g) && eqC p.cs q.cs))))
theorem P2.eqB_self (p : P2) : P2.eqB p p = true := by simp [P2.eqB, eqC_self]
def eqP : List P2 → List P2 → Bool
  | [], [] => true
  | p :: l, q :: m => P2.eqB p q && eqP l m
  | _, _ => false
theorem eqP_len : ∀ (a b : List P2), a.length ≠ b.length → eqP a b = false
  | [], [], h => absurd rfl h
  | [], _ :: _, _ => rfl
  | _ :: _, [], _ => rfl
  | x :: a, y :: b, h => by
    rw [eqP, eqP_len a b (fun e => h (by simp [e])), Bool.and_false]
theorem eqP_self : ∀ a : List P2, eqP a a = true
  | [] => rfl
  | p :: l => by rw [eqP, eqP_self l, P2.eqB_self]; rfl
theorem eqP_drop {a b : List P2} {k : Nat} (h : k < a.length) (h' : k < b.length) : eqP (a.drop k) (b.drop k) = (P2.eqB a[k] b[k] && eqP (a.drop (k + 1)) (b.drop (k + 1))) := by
  rw [List.drop_eq_getElem_cons h, List.drop_eq_getElem_cons h', eqP]

/-! ### what is wrong -/
def memN (s : ByteArray) (l : List C2) : Bool := l.any fun c => decide (c.name = s)
def c2E (ahead : List C2) (c : C2) : Int := if labB c.name.data.toList = true then (if memN c.name ahead = true then 8 else if imgB c.image.data.toList = true then 0 else 6) else 13
def cs2E : List C2 → List C2 → Int
  | _, [] => 0
  | ah, c :: r => if c2E ah c = 0 then cs2E (ah ++ [c]) r else c2E ah c
def head2E (p : P2) (ahead : ByteArray) : Int :=
  if fileB p.file = true ∧ nameB p.name.data.toList = true ∧ labB p.ns.data.toList = true then
    (if leS p.file ahead = true then 6 else if 2 < p.r ∨ p.g < 1 ∨ 3600 < p.g then 7 else if p.cs.length = 0 then 16 else if 16 < p.cs.length then 18 else 0)
  else 13
def f2E (p : P2) (ahead : ByteArray) : Int := if head2E p ahead = 0 then cs2E [] p.cs else head2E p ahead
def chk2F : ByteArray → List P2 → Int
  | _, [] => 0
  | a, p :: l => if f2E p a = 0 then chk2F p.file l else f2E p a
def chk2 (l : List P2) : Int := if 1024 < l.length then 18 else chk2F ⟨#[]⟩ l
def ahead2 (l : List P2) (k : Nat) : ByteArray := if k = 0 then ⟨#[]⟩ else (l.map (·.file)).getD (k - 1) ⟨#[]⟩
theorem ahead2_succ (l : List P2) (k : Nat) (h : k < l.length) : ahead2 l (k + 1) = l[k].file := by
  unfold ahead2
  rw [if_neg (by omega), Nat.add_sub_cancel, List.getD_eq_getElem?_getD, List.getElem?_map, List.getElem?_eq_getElem h]; rfl
theorem chk2F_drop {l : List P2} {k : Nat} (h : k < l.length) (a : ByteArray) : chk2F a (l.drop k) = if f2E l[k] a = 0 then chk2F l[k].file (l.drop (k + 1)) else f2E l[k] a := by
  rw [List.drop_eq_getElem_cons h, chk2F]
theorem cs2E_drop {l : List C2} {k : Nat} (h : k < l.length) : cs2E (l.take k) (l.drop k) = if c2E (l.take k) l[k] = 0 then cs2E (l.take (k + 1)) (l.drop (k + 1)) else c2E (l.take k) l[k] := by
  rw [List.drop_eq_getElem_cons h, cs2E, List.take_succ_eq_append_getElem h]
theorem labB_len2 {l : List UInt8} (h : labB l = true) : l.length ≤ 63 := (labB_len h).2
theorem c2E_ok {ah : List C2} {c : C2} (h : c2E ah c = 0) : labB c.name.data.toList = true ∧ imgB c.image.data.toList = true := by
  unfold c2E at h
  split at h
  · rename_i h1
    split at h
    · simp at h
    · split at h
      · rename_i h2; exact ⟨h1, h2⟩
      · simp at h
  · simp at h
theorem cs2E_ok : ∀ (l ah : List C2), cs2E ah l = 0 → ∀ c ∈ l, labB c.name.data.toList = true ∧ imgB c.image.data.toList = true
  | [], _, _, c, hc => by simp at hc
  | d :: l, ah, h, c, hc => by
    rw [cs2E] at h
    split at h
    · rename_i h0
      rcases List.mem_cons.1 hc with rfl | hc
      · exact c2E_ok h0
      · exact cs2E_ok l _ h c hc
    · rename_i h0; exact absurd h h0
structure P2.Good (p : P2) : Prop where
  file : fileB p.file = true
  name : nameB p.name.data.toList = true
  ns : labB p.ns.data.toList = true
  r : p.r ≤ 2
  g0 : 1 ≤ p.g
  g1 : p.g ≤ 3600
  l0 : p.cs.length ≠ 0
  l1 : p.cs.length ≤ 16
  cs : ∀ c ∈ p.cs, labB c.name.data.toList = true ∧ imgB c.image.data.toList = true
theorem f2E_ok {p : P2} {a : ByteArray} (h : f2E p a = 0) : p.Good := by
  unfold f2E at h
  split at h
  · rename_i h0
    unfold head2E at h0
    split at h0
    · rename_i h1
      split at h0
      · simp at h0
      split at h0
      · simp at h0
      split at h0
      · simp at h0
      split at h0
      · simp at h0
      rename_i h2 h3 h4 h5
      exact ⟨h1.1, h1.2.1, h1.2.2, by omega, by omega, by omega, h4, by omega, cs2E_ok _ _ h⟩
    · simp at h0
  · rename_i h0; exact absurd h h0
theorem chk2F_ok : ∀ (l : List P2) (a : ByteArray), chk2F a l = 0 → ∀ p ∈ l, p.Good
  | [], _, _, p, hp => by simp at hp
  | q :: l, a, h, p, hp => by
    rw [chk2F] at h
    split at h
    · rename_i h0
      rcases List.mem_cons.1 hp with rfl | hp
      · exact f2E_ok h0
      · exact chk2F_ok l _ h p hp
    · rename_i h0; exact absurd h h0
/-- Texts no greater than that, a byte, a number of two bytes. -/
structure P2.Fit (b : Nat) (p : P2) : Prop where
  file : p.file.size ≤ b
  name : p.name.size ≤ b
  ns : p.ns.size ≤ b
  r0 : 0 ≤ p.r
  r1 : p.r ≤ 255
  g0 : 0 ≤ p.g
  g1 : p.g ≤ 65535
  cs : ∀ c ∈ p.cs, c.name.size ≤ b ∧ c.image.size ≤ b
theorem P2.Fit.mono {b c : Nat} {p : P2} (h : p.Fit b) (hbc : b ≤ c) : p.Fit c :=
  ⟨Nat.le_trans h.file hbc, Nat.le_trans h.name hbc, Nat.le_trans h.ns hbc, h.r0, h.r1, h.g0, h.g1, fun x hx => ⟨Nat.le_trans (h.cs x hx).1 hbc, Nat.le_trans (h.cs x hx).2 hbc⟩⟩
/-- Numbers as they may be. -/
def P2.Num (p : P2) : Prop := 0 ≤ p.r ∧ p.r ≤ 255 ∧ 0 ≤ p.g ∧ p.g ≤ 65535
theorem chk2_fit {l : List P2} (h : chk2 l = 0) (hn : ∀ p ∈ l, p.Num) : l.length ≤ 1024 ∧ ∀ p ∈ l, p.Fit 255 ∧ p.cs.length ≤ 16 := by
  unfold chk2 at h
  split at h
  · simp at h
  · refine ⟨by omega, fun p hp => ?_⟩
    have hg := chk2F_ok l _ h p hp
    have h1 := (file_one hg.file).2
    have h2 := nameB_len hg.name
    have h3 := labB_len2 hg.ns
    obtain ⟨n1, n2, n3, n4⟩ := hn p hp
    refine ⟨⟨by omega, by rw [Lib.size_eq]; omega, by rw [Lib.size_eq]; omega, n1, n2, n3, n4, fun c hc => ?_⟩, hg.l1⟩
    obtain ⟨h4, h5⟩ := hg.cs c hc
    have h4 := labB_len2 h4
    have h5 := imgB_len h5
    rw [Lib.size_eq, Lib.size_eq]; omega

/-! ### bytes -/
def cL (c : C2) : List UInt8 := txtL c.name ++ txtL c.image
def pod2L (p : P2) : List UInt8 := txtL p.file ++ (txtL p.name ++ (txtL p.ns ++ (be 1 p.r.toNat ++ (be 2 p.g.toNat ++ (be 1 p.cs.length ++ p.cs.flatMap cL)))))
def enc2L (seq : Int) (l : List P2) : List UInt8 := be 8 seq.toNat ++ (be 2 l.length ++ l.flatMap pod2L)
theorem cL_len {c : C2} {b : Nat} (h : c.name.size ≤ b ∧ c.image.size ≤ b) : (cL c).length ≤ 4 + 2 * b := by
  simp only [cL, List.length_append, txtL_len]; omega
theorem pod2L_len {p : P2} (h : p.Fit 255) (hl : p.cs.length ≤ 16) : (pod2L p).length ≤ 9000 := by
  have h1 := flat_le cL 514 p.cs (fun c hc => cL_len (h.cs c hc))
  have h2 : p.cs.length * 514 ≤ 16 * 514 := Nat.mul_le_mul hl (Nat.le_refl _)
  have := h.file; have := h.name; have := h.ns
  simp only [pod2L, List.length_append, txtL_len, be_length]
  omega
end Go.Proofs.YtldncgelghcjeaaGreatDoor.K
namespace Go.Proofs.YtldncgelghcjeaaGreatDoor.K
open Go.ChangeShapes Go.WideShapes Go.ChangeAt Go.RowKit

def P1.cells (p : P1) : List Value := [.string p.file, .string p.name, .string p.image, .int .u8 p.r]
def P1.val (p : P1) : Value := .agg #[.string p.file, .string p.name, .string p.image, .int .u8 p.r]
def p1s (l : List P1) : List Value := l.flatMap P1.cells
theorem p1s_len (l : List P1) : (p1s l).length = l.length * 4 := flat_length P1.cells 4 (fun _ => rfl) l
theorem p1s_snoc (l : List P1) (p : P1) : p1s (l ++ [p]) = p1s l ++ [.string p.file, .string p.name, .string p.image, .int .u8 p.r] := by simp [p1s, P1.cells]
/-- The four cells of a pod at a place. -/
def P1.lies (w : World) (g o : Nat) (p : P1) : Prop :=
  w.cell? ⟨g, o, none⟩ = some (.string p.file) ∧ w.cell? ⟨g, o + 1, none⟩ = some (.string p.name) ∧ w.cell? ⟨g, o + 2, none⟩ = some (.string p.image) ∧ w.cell? ⟨g, o + 3, none⟩ = some (.int .u8 p.r)
theorem p1_form {w : World} {a : Option Addr} {l : List P1} (h : RowAt w a (p1s l)) {i0 : Nat} (h0 : i0 < l.length) : ∃ g o, a = some ⟨g, o, none⟩ ∧ ∀ i (hi : i < l.length), l[i].lies w g (o + i * 4) := by
  obtain ⟨g, o, e, h⟩ := h.form (fun e => by
    have := p1s_len l
    rw [e] at this
    simp at this; omega)
  have each : ∀ i (hi : i < l.length) j x, j < 4 → l[i].cells[j]? = some x → w.cell? ⟨g, o + i * 4 + j, none⟩ = some x := fun i hi j x hj hx => by
    have := h _ _ ((flat_get P1.cells 4 (fun _ => rfl) l i hi j hj).trans hx)
    rw [Nat.add_assoc]; exact this
  exact ⟨g, o, e, fun i hi => ⟨each i hi 0 _ (by omega) rfl, each i hi 1 _ (by omega) rfl, each i hi 2 _ (by omega) rfl, each i hi 3 _ (by omega) rfl⟩⟩
/-- A pod in a block of its own. -/
theorem p1_box {w : World} {b t : Nat} {p : P1} (h : w.heap[b]? = some (.cells #[.string p.file, .string p.name, .string p.image, .int .u8 p.r] t)) : p.lies w b 0 ∧ ∀ i, w.frozen? ⟨b, i, none⟩ = false :=
  ⟨⟨cell_of_at h rfl, cell_of_at h rfl, cell_of_at h rfl, cell_of_at h rfl⟩, frozen_of_at h⟩
/-- A state. -/
def st1 (seq : Int) (a : Option Addr) (n c : Nat) : Value := .agg #[.int .u32 seq, .slice a n c]
theorem st1_box {w : World} {b t : Nat} {seq : Int} {a : Option Addr} {n c : Nat} (h : w.heap[b]? = some (.cells #[.int .u32 seq, .slice a n c] t)) :
    w.cell? ⟨b, 0, none⟩ = some (.int .u32 seq) ∧ w.cell? ⟨b, 1, none⟩ = some (.slice a n c) ∧ ∀ i, w.frozen? ⟨b, i, none⟩ = false :=
  ⟨cell_of_at h rfl, cell_of_at h rfl, frozen_of_at h⟩
end Go.Proofs.YtldncgelghcjeaaGreatDoor.K
namespace Go.Proofs.YtldncgelghcjeaaGreatDoor.K
open Go.ChangeShapes Go.WideShapes Go.ChangeAt Go.RowKit

def C2.cells (p : C2) : List Value := [.string p.name, .string p.image]
def C2.val (p : C2) : Value := .agg #[.string p.name, .string p.image]
def c2s (l : List C2) : List Value := l.flatMap C2.cells
theorem c2s_len (l : List C2) : (c2s l).length = l.length * 2 := flat_length C2.cells 2 (fun _ => rfl) l
theorem c2s_snoc (l : List C2) (p : C2) : c2s (l ++ [p]) = c2s l ++ [.string p.name, .string p.image] := by simp [c2s, C2.cells]
def C2.lies (w : World) (g o : Nat) (p : C2) : Prop := w.cell? ⟨g, o, none⟩ = some (.string p.name) ∧ w.cell? ⟨g, o + 1, none⟩ = some (.string p.image)
theorem c2_form {w : World} {a : Option Addr} {l : List C2} (h : RowAt w a (c2s l)) {i0 : Nat} (h0 : i0 < l.length) : ∃ g o, a = some ⟨g, o, none⟩ ∧ ∀ i (hi : i < l.length), l[i].lies w g (o + i * 2) := by
  obtain ⟨g, o, e, h⟩ := h.form (fun e => by
    have := c2s_len l
    rw [e] at this
    simp at this; omega)
  have each : ∀ i (hi : i < l.length) j x, j < 2 → l[i].cells[j]? = some x → w.cell? ⟨g, o + i * 2 + j, none⟩ = some x := fun i hi j x hj hx => by
    have := h _ _ ((flat_get C2.cells 2 (fun _ => rfl) l i hi j hj).trans hx)
    rw [Nat.add_assoc]; exact this
  exact ⟨g, o, e, fun i hi => ⟨each i hi 0 _ (by omega) rfl, each i hi 1 _ (by omega) rfl⟩⟩
/-- The first elements of a row are a row. -/
theorem c2_take {w : World} {a : Option Addr} {l : List C2} (h : RowAt w a (c2s l)) (k : Nat) : RowAt w a (c2s (l.take k)) := by
  rcases h with h | ⟨g, o, e, h⟩
  · left
    have h2 := c2s_len l
    rw [h] at h2
    have : l = [] := List.eq_nil_of_length_eq_zero (by simp at h2; omega)
    rw [this]; simp [c2s]
  · refine .inr ⟨g, o, e, fun j x hj => h j x ?_⟩
    have e2 : c2s l = c2s (l.take k) ++ c2s (l.drop k) := by unfold c2s; rw [← List.flatMap_append, List.take_append_drop]
    rw [e2, List.getElem?_append_left (List.getElem?_eq_some_iff.1 hj).1]
    exact hj
/-- A pod, with where its containers lie. -/
structure M2 where
  p : P2
  a : Option Addr
  c : Nat
def M2.cells (m : M2) : List Value := [.string m.p.file, .string m.p.name, .string m.p.ns, .int .u8 m.p.r, .int .u16 m.p.g, .slice m.a m.p.cs.length m.c]
def M2.val (m : M2) : Value := .agg #[.string m.p.file, .string m.p.name, .string m.p.ns, .int .u8 m.p.r, .int .u16 m.p.g, .slice m.a m.p.cs.length m.c]
abbrev M2.obj (m : M2) (t : Nat) : Obj := .cells #[.string m.p.file, .string m.p.name, .string m.p.ns, .int .u8 m.p.r, .int .u16 m.p.g, .slice m.a m.p.cs.length m.c] t
def M2.In (w : World) (m : M2) : Prop := RowAt w m.a (c2s m.p.cs) ∧ m.p.cs.length ≤ m.c
theorem M2.In.move {w w' : World} {m : M2} (h : m.In w) (f : Fresh w w') : m.In w' := ⟨h.1.move f, h.2⟩
def m2s (l : List M2) : List Value := l.flatMap M2.cells
def pods2 (l : List M2) : List P2 := l.map (·.p)
theorem m2s_len (l : List M2) : (m2s l).length = l.length * 6 := flat_length M2.cells 6 (fun _ => rfl) l
theorem m2s_snoc (l : List M2) (m : M2) : m2s (l ++ [m]) = m2s l ++ [.string m.p.file, .string m.p.name, .string m.p.ns, .int .u8 m.p.r, .int .u16 m.p.g, .slice m.a m.p.cs.length m.c] := by simp [m2s, M2.cells]
def M2.lies (w : World) (g o : Nat) (m : M2) : Prop :=
  w.cell? ⟨g, o, none⟩ = some (.string m.p.file) ∧ w.cell? ⟨g, o + 1, none⟩ = some (.string m.p.name) ∧ w.cell? ⟨g, o + 2, none⟩ = some (.string m.p.ns) ∧ w.cell? ⟨g, o + 3, none⟩ = some (.int .u8 m.p.r) ∧ w.cell? ⟨g, o + 4, none⟩ = some (.int .u16 m.p.g) ∧ w.cell? ⟨g, o + 5, none⟩ = some (.slice m.a m.p.cs.length m.c)
theorem m2_form {w : World} {a : Option Addr} {l : List M2} (h : RowAt w a (m2s l)) {i0 : Nat} (h0 : i0 < l.length) : ∃ g o, a = some ⟨g, o, none⟩ ∧ ∀ i (hi : i < l.length), l[i].lies w g (o + i * 6) := by
  obtain ⟨g, o, e, h⟩ := h.form (fun e => by
    have := m2s_len l
    rw [e] at this
    simp at this; omega)
  have each : ∀ i (hi : i < l.length) j x, j < 6 → l[i].cells[j]? = some x → w.cell? ⟨g, o + i * 6 + j, none⟩ = some x := fun i hi j x hj hx => by
    have := h _ _ ((flat_get M2.cells 6 (fun _ => rfl) l i hi j hj).trans hx)
    rw [Nat.add_assoc]; exact this
  exact ⟨g, o, e, fun i hi => ⟨each i hi 0 _ (by omega) rfl, each i hi 1 _ (by omega) rfl, each i hi 2 _ (by omega) rfl, each i hi 3 _ (by omega) rfl, each i hi 4 _ (by omega) rfl, each i hi 5 _ (by omega) rfl⟩⟩
theorem m2_box {w : World} {b t : Nat} {m : M2} (h : w.heap[b]? = some (m.obj t)) : m.lies w b 0 ∧ ∀ i, w.frozen? ⟨b, i, none⟩ = false :=
  ⟨⟨cell_of_at h rfl, cell_of_at h rfl, cell_of_at h rfl, cell_of_at h rfl, cell_of_at h rfl, cell_of_at h rfl⟩, frozen_of_at h⟩
/-- A state's row. -/
structure Row2 (w : World) (a : Option Addr) (l : List M2) : Prop where
  row : RowAt w a (m2s l)
  ins : ∀ m ∈ l, m.In w
theorem Row2.move {w w' : World} {a : Option Addr} {l : List M2} (h : Row2 w a l) (f : Fresh w w') : Row2 w' a l := ⟨h.row.move f, fun m hm => (h.ins m hm).move f⟩
theorem Row2.nil (w : World) (a : Option Addr) : Row2 w a [] := ⟨.nil _ _, by simp⟩
def st2 (seq : Int) (a : Option Addr) (n c : Nat) : Value := .agg #[.int .u64 seq, .slice a n c]
theorem st2_box {w : World} {b t : Nat} {seq : Int} {a : Option Addr} {n c : Nat} (h : w.heap[b]? = some (.cells #[.int .u64 seq, .slice a n c] t)) :
    w.cell? ⟨b, 0, none⟩ = some (.int .u64 seq) ∧ w.cell? ⟨b, 1, none⟩ = some (.slice a n c) ∧ ∀ i, w.frozen? ⟨b, i, none⟩ = false :=
  ⟨cell_of_at h rfl, cell_of_at h rfl, frozen_of_at h⟩
end Go.Proofs.YtldncgelghcjeaaGreatDoor.K
namespace Go.Proofs.YtldncgelghcjeaaGreatDoor.K
open Go.ChangeShapes Go.WideShapes Go.ChangeAt Go.RowKit

/-! ### what is taken -/
theorem textT_err {s : ByteArray} {e : Int} (h : e ≠ 0) : textT s e = (s, e, ⟨#[]⟩) := by
  have h2 : takeT s e 2 = (s, e, 0) := by simp [takeT, h]
  unfold textT
  rw [h2, if_pos h]
theorem takeT_err {s : ByteArray} {e n : Int} (h : e ≠ 0) : takeT s e n = (s, e, 0) := by simp [takeT, h]
theorem textT_len {s s1 : ByteArray} {e e1 : Int} {x : ByteArray} (h : textT s e = (s1, e1, x)) : s1.size ≤ s.size ∧ x.size ≤ 4096 := by
  obtain ⟨t1, t2, t3, ht⟩ : ∃ t1 t2 t3, takeT s e 2 = (t1, t2, t3) := ⟨_, _, _, rfl⟩
  have hl := take_len ht
  unfold textT at h
  rw [ht] at h
  dsimp only at h
  split at h
  · cases h; exact ⟨hl, Nat.zero_le _⟩
  split at h
  · cases h; exact ⟨Nat.le_refl _, Nat.zero_le _⟩
  split at h
  · cases h; exact ⟨Nat.le_refl _, Nat.zero_le _⟩
  · cases h
    refine ⟨Nat.le_trans (extract_size_le _ _ _) hl, ?_⟩
    rw [ByteArray.size_extract]; omega
def podT (s : ByteArray) (e : Int) : ByteArray × Int × P1 :=
  ((takeT (textT (textT (textT s e).1 (textT s e).2.1).1 (textT (textT s e).1 (textT s e).2.1).2.1).1 (textT (textT (textT s e).1 (textT s e).2.1).1 (textT (textT s e).1 (textT s e).2.1).2.1).2.1 1).1,
   (takeT (textT (textT (textT s e).1 (textT s e).2.1).1 (textT (textT s e).1 (textT s e).2.1).2.1).1 (textT (textT (textT s e).1 (textT s e).2.1).1 (textT (textT s e).1 (textT s e).2.1).2.1).2.1 1).2.1,
   ⟨(textT s e).2.2, (textT (textT s e).1 (textT s e).2.1).2.2, (textT (textT (textT s e).1 (textT s e).2.1).1 (textT (textT s e).1 (textT s e).2.1).2.1).2.2,
    (takeT (textT (textT (textT s e).1 (textT s e).2.1).1 (textT (textT s e).1 (textT s e).2.1).2.1).1 (textT (textT (textT s e).1 (textT s e).2.1).1 (textT (textT s e).1 (textT s e).2.1).2.1).2.1 1).2.2⟩)
theorem podT_eq {s s1 s2 s3 s4 x1 x2 x3 : ByteArray} {e e1 e2 e3 e4 v : Int} (h1 : textT s e = (s1, e1, x1)) (h2 : textT s1 e1 = (s2, e2, x2)) (h3 : textT s2 e2 = (s3, e3, x3)) (h4 : takeT s3 e3 1 = (s4, e4, v)) :
    podT s e = (s4, e4, ⟨x1, x2, x3, v⟩) := by
  simp only [podT, h1, h2, h3, h4]
/-- The four takes, told. -/
structure Pod1T (s : ByteArray) (e : Int) (s1 s2 s3 s4 x1 x2 x3 : ByteArray) (e1 e2 e3 e4 v : Int) : Prop where
  h1 : textT s e = (s1, e1, x1)
  h2 : textT s1 e1 = (s2, e2, x2)
  h3 : textT s2 e2 = (s3, e3, x3)
  h4 : takeT s3 e3 1 = (s4, e4, v)
theorem pod1T (s : ByteArray) (e : Int) : ∃ s1 s2 s3 s4 x1 x2 x3 e1 e2 e3 e4 v, Pod1T s e s1 s2 s3 s4 x1 x2 x3 e1 e2 e3 e4 v :=
  ⟨_, _, _, _, _, _, _, _, _, _, _, _, rfl, rfl, rfl, rfl⟩
theorem Pod1T.v {s s1 s2 s3 s4 x1 x2 x3 : ByteArray} {e e1 e2 e3 e4 v : Int} (h : Pod1T s e s1 s2 s3 s4 x1 x2 x3 e1 e2 e3 e4 v) : 0 ≤ v ∧ v < 256 := by
  have := take_val s3 e3 1
  rw [show ((1 : Nat) : Int) = 1 from rfl, h.h4] at this
  exact this
theorem Pod1T.le {s s1 s2 s3 s4 x1 x2 x3 : ByteArray} {e e1 e2 e3 e4 v : Int} (h : Pod1T s e s1 s2 s3 s4 x1 x2 x3 e1 e2 e3 e4 v) :
    (s1.size ≤ s.size ∧ s2.size ≤ s.size ∧ s3.size ≤ s.size ∧ s4.size ≤ s.size) ∧ x1.size ≤ 4096 ∧ x2.size ≤ 4096 ∧ x3.size ≤ 4096 := by
  have a1 := textT_len h.h1
  have a2 := textT_len h.h2
  have a3 := textT_len h.h3
  have a4 := take_len h.h4
  omega
theorem Pod1T.fit {s s1 s2 s3 s4 x1 x2 x3 : ByteArray} {e e1 e2 e3 e4 v : Int} (h : Pod1T s e s1 s2 s3 s4 x1 x2 x3 e1 e2 e3 e4 v) : P1.Fit 4096 ⟨x1, x2, x3, v⟩ := by
  have a := h.le
  have b := h.v
  exact ⟨a.2.1, a.2.2.1, a.2.2.2, b.1, by dsimp only; omega⟩
theorem podT_err {s : ByteArray} {e : Int} (h : e ≠ 0) : (podT s e).1 = s ∧ (podT s e).2.1 = e := by
  rw [podT_eq (textT_err h) (textT_err h) (textT_err h) (takeT_err h)]
  exact ⟨rfl, rfl⟩
def podsT : Nat → ByteArray → Int → ByteArray × Int × List P1
  | 0, s, e => (s, e, [])
  | n + 1, s, e => ((podsT n (podT s e).1 (podT s e).2.1).1, (podsT n (podT s e).1 (podT s e).2.1).2.1, (podT s e).2.2 :: (podsT n (podT s e).1 (podT s e).2.1).2.2)
theorem podsT_err : ∀ (n : Nat) {s : ByteArray} {e : Int}, e ≠ 0 → (podsT n s e).1 = s ∧ (podsT n s e).2.1 = e
  | 0, _, _, _ => ⟨rfl, rfl⟩
  | n + 1, s, e, h => by
    obtain ⟨h1, h2⟩ := podT_err (s := s) h
    rw [podsT, h1, h2]
    exact podsT_err n h
/-- What was taken ahead of the rest. -/
def aheadT (D : List P1) (q : ByteArray × Int × List P1) : ByteArray × Int × List P1 := (q.1, q.2.1, D ++ q.2.2)
theorem aheadT_nil (q : ByteArray × Int × List P1) : aheadT [] q = q := rfl
theorem podsT_step {n k : Nat} (hk : k < n) {s s1 : ByteArray} {e e1 : Int} {p : P1} (h : podT s e = (s1, e1, p)) (D : List P1) :
    aheadT D (podsT (n - k) s e) = aheadT (D ++ [p]) (podsT (n - (k + 1)) s1 e1) := by
  obtain ⟨m, hm⟩ : ∃ m, n - k = m + 1 := ⟨n - k - 1, by omega⟩
  rw [hm, show n - (k + 1) = m by omega, podsT, h]
  simp [aheadT]
def decT (b : ByteArray) : Int × Int × List P1 :=
  if 1024 < (takeT (takeT b 0 4).1 (takeT b 0 4).2.1 2).2.2 then (18, 0, []) else
  if endT (podsT (takeT (takeT b 0 4).1 (takeT b 0 4).2.1 2).2.2.toNat (takeT (takeT b 0 4).1 (takeT b 0 4).2.1 2).1 (takeT (takeT b 0 4).1 (takeT b 0 4).2.1 2).2.1).1
      (podsT (takeT (takeT b 0 4).1 (takeT b 0 4).2.1 2).2.2.toNat (takeT (takeT b 0 4).1 (takeT b 0 4).2.1 2).1 (takeT (takeT b 0 4).1 (takeT b 0 4).2.1 2).2.1).2.1 ≠ 0 then
    (endT (podsT (takeT (takeT b 0 4).1 (takeT b 0 4).2.1 2).2.2.toNat (takeT (takeT b 0 4).1 (takeT b 0 4).2.1 2).1 (takeT (takeT b 0 4).1 (takeT b 0 4).2.1 2).2.1).1
      (podsT (takeT (takeT b 0 4).1 (takeT b 0 4).2.1 2).2.2.toNat (takeT (takeT b 0 4).1 (takeT b 0 4).2.1 2).1 (takeT (takeT b 0 4).1 (takeT b 0 4).2.1 2).2.1).2.1, 0, [])
  else if chk1 (podsT (takeT (takeT b 0 4).1 (takeT b 0 4).2.1 2).2.2.toNat (takeT (takeT b 0 4).1 (takeT b 0 4).2.1 2).1 (takeT (takeT b 0 4).1 (takeT b 0 4).2.1 2).2.1).2.2 ≠ 0 then
    (chk1 (podsT (takeT (takeT b 0 4).1 (takeT b 0 4).2.1 2).2.2.toNat (takeT (takeT b 0 4).1 (takeT b 0 4).2.1 2).1 (takeT (takeT b 0 4).1 (takeT b 0 4).2.1 2).2.1).2.2, 0, [])
  else (0, (takeT b 0 4).2.2, (podsT (takeT (takeT b 0 4).1 (takeT b 0 4).2.1 2).2.2.toNat (takeT (takeT b 0 4).1 (takeT b 0 4).2.1 2).1 (takeT (takeT b 0 4).1 (takeT b 0 4).2.1 2).2.1).2.2)
/-- The takes of a state, told. -/
structure Dec1T (b s1 s2 s3 : ByteArray) (e1 e2 e3 q n : Int) (L : List P1) : Prop where
  h1 : takeT b 0 4 = (s1, e1, q)
  h2 : takeT s1 e1 2 = (s2, e2, n)
  h3 : podsT n.toNat s2 e2 = (s3, e3, L)
theorem dec1T (b : ByteArray) : ∃ s1 s2 s3 e1 e2 e3 q n L, Dec1T b s1 s2 s3 e1 e2 e3 q n L := ⟨_, _, _, _, _, _, _, _, _, rfl, rfl, rfl⟩
theorem decT_eq {b s1 s2 s3 : ByteArray} {e1 e2 e3 q n : Int} {L : List P1} (h : Dec1T b s1 s2 s3 e1 e2 e3 q n L) :
    decT b = if 1024 < n then (18, 0, []) else if endT s3 e3 ≠ 0 then (endT s3 e3, 0, []) else if chk1 L ≠ 0 then (chk1 L, 0, []) else (0, q, L) := by
  unfold decT
  simp only [h.h1, h.h2, h.h3]
theorem Dec1T.vals {b s1 s2 s3 : ByteArray} {e1 e2 e3 q n : Int} {L : List P1} (h : Dec1T b s1 s2 s3 e1 e2 e3 q n L) : (0 ≤ q ∧ q ≤ 4294967295) ∧ (0 ≤ n ∧ n < 65536) := by
  have a := take_val b 0 4
  have c := take_val s1 e1 2
  rw [show ((4 : Nat) : Int) = 4 from rfl, h.h1] at a
  rw [show ((2 : Nat) : Int) = 2 from rfl, h.h2] at c
  have a2 : q < 4294967296 := a.2
  have c2 : n < 65536 := c.2
  exact ⟨⟨a.1, by omega⟩, ⟨c.1, c2⟩⟩
theorem Dec1T.le {b s1 s2 s3 : ByteArray} {e1 e2 e3 q n : Int} {L : List P1} (h : Dec1T b s1 s2 s3 e1 e2 e3 q n L) : s1.size ≤ b.size ∧ s2.size ≤ b.size := by
  have a := take_len h.h1
  have c := take_len h.h2
  omega
/-- Where something went wrong, nothing is taken. -/
theorem Dec1T.zero {b s1 s2 s3 : ByteArray} {e1 e2 e3 q n : Int} {L : List P1} (h : Dec1T b s1 s2 s3 e1 e2 e3 q n L) (he : e2 ≠ 0) : n = 0 := by
  rcases Int.lt_or_eq_of_le h.vals.2.1 with h0 | h0
  · have : e2 = 0 := by
      have h2 := h.h2
      unfold takeT at h2
      split at h2
      · simp at h2; omega
      split at h2
      · simp at h2; omega
      split at h2
      · simp at h2; omega
      · simp only [Prod.mk.injEq] at h2; omega
    exact absurd this he
  · exact h0.symm
theorem podsT_fit : ∀ (n : Nat) (s : ByteArray) (e : Int), ∀ p ∈ (podsT n s e).2.2, p.Fit 4096
  | 0, _, _, p, hp => by simp [podsT] at hp
  | n + 1, s, e, p, hp => by
    rw [podsT] at hp
    rcases List.mem_cons.1 hp with h | h
    · obtain ⟨s1, s2, s3, s4, x1, x2, x3, e1, e2, e3, e4, v, hT⟩ := pod1T s e
      rw [h, podT_eq hT.h1 hT.h2 hT.h3 hT.h4]
      exact hT.fit
    · exact podsT_fit n _ _ p h
theorem podsT_len : ∀ (n : Nat) (s : ByteArray) (e : Int), (podsT n s e).2.2.length = n
  | 0, _, _ => rfl
  | n + 1, s, e => by rw [podsT, List.length_cons, podsT_len n]
/-- What is decoded: few pods, short texts. -/
theorem decT_fit (b : ByteArray) : (∀ p ∈ (decT b).2.2, p.Fit 4096) ∧ (decT b).2.2.length ≤ 1024 ∧ 0 ≤ (decT b).2.1 ∧ (decT b).2.1 ≤ 4294967295 := by
  obtain ⟨s1, s2, s3, e1, e2, e3, q, n, L, hD⟩ := dec1T b
  have hv := hD.vals
  rw [decT_eq hD]
  split
  · exact ⟨by simp, by simp, by simp, by simp⟩
  split
  · exact ⟨by simp, by simp, by simp, by simp⟩
  split
  · exact ⟨by simp, by simp, by simp, by simp⟩
  · rename_i h1 _ _
    have h3 := congrArg (fun x => x.2.2) hD.h3
    dsimp only at h3
    refine ⟨fun p hp => ?_, ?_, hv.1.1, hv.1.2⟩
    · exact podsT_fit n.toNat s2 e2 p (by rw [h3]; exact hp)
    · have := podsT_len n.toNat s2 e2
      rw [h3] at this
      rw [this]; omega
end Go.Proofs.YtldncgelghcjeaaGreatDoor.K
