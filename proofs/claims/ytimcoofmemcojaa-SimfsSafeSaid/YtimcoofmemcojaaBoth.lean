/-
  The code's calls and the document's, side by side: one code, states that tell the same.
-/
import Derived.Test.YtimcoofmemcojaaRefC
import Derived.Test.YtimcoofmemcojaaRefD
import Derived.Test.YtimcoofmemcojaaRefG
import Derived.Test.YtimcoofmemcojaaAwake
namespace Go.Proofs.Ytimcoofmemcojaa
open Go.ChangeShapes Go.WideShapes Go.ChangeAt Go.RowKit
variable {base : Nat} {w : World} {b : Nat} {s : St} {L : Lay} {r : RSt} {k : Nat}

theorem Rel.fell (h : Rel s r k) : Rel s.fell (r.count r.steps r.left true) (k + 1) :=
  ⟨h.left, h.steps, rfl, h.safe, h.wait, h.now, Nat.le_succ_of_le h.sf, Nat.le_succ_of_le h.sw, Nat.le_succ_of_le h.ss⟩
theorem Rel.stepped (h : Rel s r k) : Rel s.step r.step (k + 1) :=
  ⟨by show lessOne r.left = lessOne s.left; rw [h.left], by show r.steps + 1 = s.steps + 1; rw [h.steps], rfl, h.safe, h.wait, h.now, Nat.le_succ_of_le h.sf, Nat.le_succ_of_le h.sw, Nat.succ_le_succ h.ss⟩
theorem Rel.does (h : Rel s r k) {d : Deed} {e : RDeed} (hd : DeedRel d e r.files.length) (hs : e.kind = 1 → 0 ≤ atL r.now e.src) : Rel (s.step.does d) (r.step.waits e) (k + 1) where
  left := by show lessOne r.left = lessOne s.left; rw [h.left]
  steps := by show r.steps + 1 = s.steps + 1; rw [h.steps]
  down := rfl
  safe := h.safe
  wait := h.wait.snoc hd (by rw [← h.now]; exact hs)
  now := by show onL r.now e = onAllL r.safe (r.wait ++ [e]); rw [onAllL_snoc, ← h.now]
  sf := Nat.le_succ_of_le h.sf
  sw := by
    show r.safe.length + (r.wait ++ [e]).length ≤ k + 1
    rw [List.length_append, List.length_singleton]
    have := h.sw
    omega
  ss := Nat.succ_le_succ h.ss
theorem Rel.setF (h : Rel s r k) (i : Nat) (x : RFile) : Rel s (r.setF i x) k where
  left := h.left
  steps := h.steps
  down := h.down
  safe := by show DirRel s.safe r.safe (r.files.set i x).length; rw [List.length_set]; exact h.safe
  wait := by show WaitRel (r.files.set i x).length s.safe r.safe s.wait r.wait; rw [List.length_set]; exact h.wait
  now := h.now
  sf := by show (r.files.set i x).length ≤ k; rw [List.length_set]; exact h.sf
  sw := h.sw
  ss := h.ss
theorem Rel.came (h : Rel s r k) (name : ByteArray) (hn : name.size ≠ 0) (f : Nat) : Rel (s.step.does ⟨⟨#[]⟩, name, f⟩) (r.step.more.waits ⟨0, ⟨#[]⟩, name, (r.files.length : Nat)⟩) (k + 1) where
  left := by show lessOne r.left = lessOne s.left; rw [h.left]
  steps := by show r.steps + 1 = s.steps + 1; rw [h.steps]
  down := rfl
  safe := by
    show DirRel s.safe r.safe (r.files ++ [((⟨#[]⟩, ⟨#[]⟩) : RFile)]).length
    rw [List.length_append]
    exact h.safe.mono (Nat.le_add_right _ _)
  wait := by
    show WaitRel (r.files ++ [((⟨#[]⟩, ⟨#[]⟩) : RFile)]).length s.safe r.safe (s.wait ++ [⟨⟨#[]⟩, name, f⟩]) (r.wait ++ [⟨0, ⟨#[]⟩, name, (r.files.length : Nat)⟩])
    rw [List.length_append, List.length_singleton]
    exact (h.wait.mono (Nat.le_succ _)).snoc (.inl ⟨rfl, rfl, rfl, hn, by dsimp only; omega, by dsimp only; omega⟩) (fun e => by cases e)
  now := by
    show onL r.now ⟨0, ⟨#[]⟩, name, (r.files.length : Nat)⟩ = onAllL r.safe (r.wait ++ [⟨0, ⟨#[]⟩, name, (r.files.length : Nat)⟩])
    rw [onAllL_snoc, ← h.now]
  sf := by
    show (r.files ++ [((⟨#[]⟩, ⟨#[]⟩) : RFile)]).length ≤ k + 1
    rw [List.length_append, List.length_singleton]
    exact Nat.succ_le_succ h.sf
  sw := by
    show r.safe.length + (r.wait ++ [(⟨0, ⟨#[]⟩, name, (r.files.length : Nat)⟩ : RDeed)]).length ≤ k + 1
    rw [List.length_append, List.length_singleton]
    have := h.sw
    omega
  ss := Nat.succ_le_succ h.ss
theorem Rel.made (h : Rel s r k) (ok : s.Ok) : Rel s.step.made r.step.made (k + 1) where
  left := by show lessOne r.left = lessOne s.left; rw [h.left]
  steps := by show r.steps + 1 = s.steps + 1; rw [h.steps]
  down := rfl
  safe := h.dir ok
  wait := trivial
  now := rfl
  sf := Nat.le_succ_of_le h.sf
  sw := Nat.le_succ_of_le h.nowlen
  ss := Nat.succ_le_succ h.ss
theorem Rel.armed (h : Rel s r k) (n : Int) : Rel (s.count s.steps (max n (-1)) s.down) (r.count r.steps (max n (-1)) r.down) (k + 1) :=
  ⟨rfl, h.steps, h.down, h.safe, h.wait, h.now, Nat.le_succ_of_le h.sf, Nat.le_succ_of_le h.sw, Nat.le_succ_of_le h.ss⟩
theorem Rel.crashed (h : Rel s r k) (fl : List RFile) (hfl : fl.length = r.files.length) (n : Nat) : Rel (s.crash n) (r.crash fl n) (k + 1) where
  left := rfl
  steps := h.steps
  down := rfl
  safe := by
    show DirRel (onAll s.safe (s.wait.take n)) (onAllL r.safe (r.wait.take n)) fl.length
    rw [hfl]
    exact (h.wait.take n).dir h.safe
  wait := trivial
  now := rfl
  sf := by show fl.length ≤ k + 1; rw [hfl]; exact Nat.le_succ_of_le h.sf
  sw := by
    show (onAllL r.safe (r.wait.take n)).length + 0 ≤ k + 1
    have h1 := onAllL_len (r.wait.take n) r.safe
    have h2 : (r.wait.take n).length ≤ r.wait.length := by simp; omega
    have h3 := h.sw
    omega
  ss := Nat.le_succ_of_le h.ss
theorem WaitRel.kinds {n : Nat} : ∀ {m : Dir} {l : List Und} {ds : List Deed} {es : List RDeed}, WaitRel n m l ds es → ∀ e ∈ es, e.Is
  | _, _, [], [], _, e, he => by cases he
  | _, _, d :: ds, e :: es, h, x, hx => by
    rcases List.mem_cons.1 hx with rfl | hx
    · rcases h.1 with h1 | h1 | h1
      · exact .inl h1.1
      · exact .inr (.inl h1.1)
      · exact .inr (.inr h1.1)
    · exact WaitRel.kinds h.2.2 x hx
  | _, _, [], _ :: _, h, _, _ => h.elim
  | _, _, _ :: _, [], h, _, _ => h.elim
/-- A state of the document's lies as it did, behind a call of the code's. -/
theorem own_keeps {B : Nat} {w w' : World} {t : TypeId} {j n : Nat} {v : Value} {xs : List Value} (h : w.ownsRow B t j v n xs) (hk : Kept base w w') (ht : t ≠ 53 ∧ t ≠ 67 ∧ t ≠ 70) : w'.ownsRow B t j v n xs := by
  refine ⟨h.1, ?_⟩
  rcases h.2 with hn | ⟨g, cap, cur, e1, hb, hg, rest⟩
  · exact .inl hn
  · exact .inr ⟨g, cap, cur, e1, hb, hk.at hg ht, rest⟩
theorem RAt.keeps {w w' : World} {R : RLay} (h : RAt w r R) (hk : Kept base w w') : RAt w' r R :=
  ⟨own_keeps h.files hk (by decide), own_keeps h.now hk (by decide), own_keeps h.safe hk (by decide), own_keeps h.wait hk (by decide)⟩
/-- What the code's call answers. -/
def CAns (base : Nat) (w : World) (b : Nat) (P : St → Prop) (c : Int) (e : Ending) (w' : World) : Prop := e = .returned (.int .i64 c) ∧ (∃ s' L', P s' ∧ FsAt base w' b s' L') ∧ Kept base w w'
def QAns (w : World) (Q : RSt → Prop) (c : Int) (e : Ending) (w' : World) : Prop := ∃ r', Q r' ∧ RAns w r' c e w'
theorem down_cases (s : St) : (s.down = true ∨ s.left = 0) ∨ (s.down = false ∧ s.left ≠ 0) := by
  by_cases h : s.down = true ∨ s.left = 0
  · exact .inl h
  · refine .inr ⟨?_, fun e => h (.inr e)⟩
    cases hd : s.down with
    | false => rfl
    | true => exact absurd (.inl hd) h
structure Ready0 (base : Nat) (w : World) (b : Nat) (s : St) (L : Lay) (r : RSt) (k : Nat) : Prop where
  fs : FsAt base w b s L
  rel : Rel s r k
  few : k ≤ 1000
theorem Ready0.low (h : Ready0 base w b s L r k) : s.steps ≤ 1000 ∧ r.steps ≤ 1000 ∧ r.files.length ≤ 1000 ∧ r.now.length ≤ 1000 ∧ r.safe.length + r.wait.length ≤ 1000 ∧ r.wait.length ≤ 1000 := by
  have h1 := h.rel.ss
  have h2 := h.rel.sf
  have h3 := h.rel.sw
  have h4 := h.rel.nowlen
  have h5 := h.few
  have h6 := h.rel.steps
  omega
theorem Ready0.num (h : Ready0 base w b s L r k) : NumOk r.now r.files.length := (h.rel.dir h.fs.ok).num
theorem Ready0.bd (h : Ready0 base w b s L r k) : -1 ≤ r.left ∧ r.left ≤ 9223372036854775807 := by rw [h.rel.left]; exact h.fs.ok.left
theorem name_ne {name : ByteArray} (h : nameB name = true) : name.size ≠ 0 := by have := nameB_size h; omega
theorem write_both (h : Ready0 base w b s L r k) (name data : ByteArray) (hs : name.size ≤ 1000) (hdt : data.size ≤ 1000) :
    ∃ (c : Int) (P : St → Prop) (Q : RSt → Prop), Calls Try.prog 11 #[.pointer (some ⟨b, 0, none⟩), .string name, .string data] w (CAns base w b P c) ∧
      (∀ (W : World) (R : RLay), RAt W r R → Calls Try.prog 19 #[rval r R, .string name, .string data] W (QAns W Q c)) ∧ ∀ s' r', P s' → Q r' → Rel s' r' (k + 1) := by
  obtain ⟨l1, l2, l3, l4, l5, l6⟩ := h.low
  have hbd := h.bd
  have hml : name.size ≤ maxLen := by unfold maxLen; omega
  rcases down_cases s with hd | ⟨hd, hz⟩
  · refine ⟨17, fun x => x = s.fell, fun x => x = r.count r.steps r.left true, (write_down h.fs hd name data).mono ?_, fun W R hat => (rwrite_down r R name data W (by rw [h.rel.down, h.rel.left]; exact hd) hat).mono ?_, ?_⟩
    · rintro e w' ⟨rfl, h1, h2, _⟩
      exact ⟨rfl, ⟨_, _, rfl, h1⟩, h2⟩
    · intro e w' h1
      exact ⟨_, rfl, h1⟩
    · rintro _ _ rfl rfl
      exact h.rel.fell
  · have hrd : r.down = false := by rw [h.rel.down]; exact hd
    have hrz : r.left ≠ 0 := by rw [h.rel.left]; exact hz
    have HR := fun (W : World) (R : RLay) (hat : RAt W r R) => rwrite_go r R name data W hml (by omega) hrd hrz hbd (by omega) (by omega) (by omega) hat (by omega) h.num
    cases hn : nameB name with
    | false =>
      refine ⟨13, fun x => x = s.step, fun x => x = r.step, (write_bad h.fs hd hz (by omega) name data hml hn).mono ?_, fun W R hat => (HR W R hat).mono ?_, ?_⟩
      · rintro e w' ⟨rfl, h1, h2, _⟩
        exact ⟨rfl, ⟨_, _, rfl, h1⟩, h2⟩
      · rintro e w' ⟨r', c, h1, ⟨_, rfl, rfl⟩ | ⟨h2, _⟩ | ⟨h2, _⟩⟩
        · exact ⟨_, rfl, h1⟩
        · rw [hn] at h2; cases h2
        · rw [hn] at h2; cases h2
      · rintro _ _ rfl rfl
        exact h.rel.stepped
    | true =>
      cases hx : s.now name with
      | some f =>
        have hat0 := (h.rel.dir h.fs.ok).some hx
        refine ⟨0, fun x => x = s.step, fun x => ∃ i y, x = r.step.setF i y, (write_old h.fs hd hz (by omega) name data hn (by omega) hx).mono ?_, fun W R hat => (HR W R hat).mono ?_, ?_⟩
        · rintro e w' ⟨rfl, h1, h2, _⟩
          exact ⟨rfl, ⟨_, _, rfl, h1⟩, h2⟩
        · rintro e w' ⟨r', c, h1, ⟨h2, _⟩ | ⟨_, _, rfl, h4⟩ | ⟨_, h3, _⟩⟩
          · rw [hn] at h2; cases h2
          · exact ⟨_, h4, h1⟩
          · omega
        · rintro _ _ rfl ⟨i, y, rfl⟩
          exact h.rel.stepped.setF i y
      | none =>
        have hat0 := (h.rel.dir h.fs.ok).none hx
        refine ⟨0, fun x => ∃ f, x = s.step.does ⟨⟨#[]⟩, name, f⟩, fun x => ∃ i y, x = (r.step.more.waits ⟨0, ⟨#[]⟩, name, (r.files.length : Nat)⟩).setF i y, (write_new h.fs hd hz (by omega) name data hn (by omega) hx).mono ?_, fun W R hat => (HR W R hat).mono ?_, ?_⟩
        · rintro e w' ⟨rfl, f, L', h1, h2, _⟩
          exact ⟨rfl, ⟨_, _, ⟨f, rfl⟩, h1⟩, h2⟩
        · rintro e w' ⟨r', c, h1, ⟨h2, _⟩ | ⟨_, h3, _⟩ | ⟨_, _, rfl, h4⟩⟩
          · rw [hn] at h2; cases h2
          · omega
          · exact ⟨_, h4, h1⟩
        · rintro _ _ ⟨f, rfl⟩ ⟨i, y, rfl⟩
          exact (h.rel.came name (name_ne hn) f).setF i y
theorem sync_both (h : Ready0 base w b s L r k) (name : ByteArray) (hs : name.size ≤ 1000) :
    ∃ (c : Int) (P : St → Prop) (Q : RSt → Prop), Calls Try.prog 12 #[.pointer (some ⟨b, 0, none⟩), .string name] w (CAns base w b P c) ∧
      (∀ (W : World) (R : RLay), RAt W r R → Calls Try.prog 20 #[rval r R, .string name] W (QAns W Q c)) ∧ ∀ s' r', P s' → Q r' → Rel s' r' (k + 1) := by
  obtain ⟨l1, l2, l3, l4, l5, l6⟩ := h.low
  have hbd := h.bd
  have hml : name.size ≤ maxLen := by unfold maxLen; omega
  rcases down_cases s with hd | ⟨hd, hz⟩
  · refine ⟨17, fun x => x = s.fell, fun x => x = r.count r.steps r.left true, (sync_down h.fs hd name).mono ?_, fun W R hat => (rsync_down r R name W (by rw [h.rel.down, h.rel.left]; exact hd) hat).mono ?_, ?_⟩
    · rintro e w' ⟨rfl, h1, h2, _⟩
      exact ⟨rfl, ⟨_, _, rfl, h1⟩, h2⟩
    · intro e w' h1
      exact ⟨_, rfl, h1⟩
    · rintro _ _ rfl rfl
      exact h.rel.fell
  · have hrd : r.down = false := by rw [h.rel.down]; exact hd
    have hrz : r.left ≠ 0 := by rw [h.rel.left]; exact hz
    have HR := fun (W : World) (R : RLay) (hat : RAt W r R) => rsync_go r R name W hml hrd hrz hbd (by omega) (by omega) (by omega) hat (by omega) h.num
    cases hn : nameB name with
    | false =>
      refine ⟨13, fun x => x = s.step, fun x => x = r.step, (sync_bad h.fs hd hz (by omega) name hml hn).mono ?_, fun W R hat => (HR W R hat).mono ?_, ?_⟩
      · rintro e w' ⟨rfl, h1, h2, _⟩
        exact ⟨rfl, ⟨_, _, rfl, h1⟩, h2⟩
      · rintro e w' ⟨r', c, h1, ⟨_, rfl, rfl⟩ | ⟨h2, _⟩ | ⟨h2, _⟩⟩
        · exact ⟨_, rfl, h1⟩
        · rw [hn] at h2; cases h2
        · rw [hn] at h2; cases h2
      · rintro _ _ rfl rfl
        exact h.rel.stepped
    | true =>
      cases hx : s.now name with
      | some f =>
        have hat0 := (h.rel.dir h.fs.ok).some hx
        refine ⟨0, fun x => x = s.step, fun x => ∃ i y, x = r.step.setF i y, (sync_some h.fs hd hz (by omega) name hn hx).mono ?_, fun W R hat => (HR W R hat).mono ?_, ?_⟩
        · rintro e w' ⟨rfl, h1, h2, _⟩
          exact ⟨rfl, ⟨_, _, rfl, h1⟩, h2⟩
        · rintro e w' ⟨r', c, h1, ⟨h2, _⟩ | ⟨_, h3, _⟩ | ⟨_, _, rfl, h4⟩⟩
          · rw [hn] at h2; cases h2
          · omega
          · exact ⟨_, h4, h1⟩
        · rintro _ _ rfl ⟨i, y, rfl⟩
          exact h.rel.stepped.setF i y
      | none =>
        have hat0 := (h.rel.dir h.fs.ok).none hx
        refine ⟨16, fun x => x = s.step, fun x => x = r.step, (sync_none h.fs hd hz (by omega) name hn hx).mono ?_, fun W R hat => (HR W R hat).mono ?_, ?_⟩
        · rintro e w' ⟨rfl, h1, h2, _⟩
          exact ⟨rfl, ⟨_, _, rfl, h1⟩, h2⟩
        · rintro e w' ⟨r', c, h1, ⟨h2, _⟩ | ⟨_, _, rfl, rfl⟩ | ⟨_, h3, _⟩⟩
          · rw [hn] at h2; cases h2
          · exact ⟨_, rfl, h1⟩
          · omega
        · rintro _ _ rfl rfl
          exact h.rel.stepped
theorem rename_both (h : Ready0 base w b s L r k) (name dst : ByteArray) (hs : name.size ≤ 1000) (hs2 : dst.size ≤ 1000) :
    ∃ (c : Int) (P : St → Prop) (Q : RSt → Prop), Calls Try.prog 21 #[.pointer (some ⟨b, 0, none⟩), .string name, .string dst] w (CAns base w b P c) ∧
      (∀ (W : World) (R : RLay), RAt W r R → Calls Try.prog 22 #[rval r R, .string name, .string dst] W (QAns W Q c)) ∧ ∀ s' r', P s' → Q r' → Rel s' r' (k + 1) := by
  obtain ⟨l1, l2, l3, l4, l5, l6⟩ := h.low
  have hbd := h.bd
  have hml : name.size ≤ maxLen := by unfold maxLen; omega
  have hml2 : dst.size ≤ maxLen := by unfold maxLen; omega
  rcases down_cases s with hd | ⟨hd, hz⟩
  · refine ⟨17, fun x => x = s.fell, fun x => x = r.count r.steps r.left true, (rename_down h.fs hd name dst).mono ?_, fun W R hat => (rrename_down r R name dst W (by rw [h.rel.down, h.rel.left]; exact hd) hat).mono ?_, ?_⟩
    · rintro e w' ⟨rfl, h1, h2, _⟩
      exact ⟨rfl, ⟨_, _, rfl, h1⟩, h2⟩
    · intro e w' h1
      exact ⟨_, rfl, h1⟩
    · rintro _ _ rfl rfl
      exact h.rel.fell
  · have hrd : r.down = false := by rw [h.rel.down]; exact hd
    have hrz : r.left ≠ 0 := by rw [h.rel.left]; exact hz
    have HR := fun (W : World) (R : RLay) (hat : RAt W r R) => rrename_go r R name dst W hml hml2 hrd hrz hbd (by omega) (by omega) (by omega) hat
    have hbad : (nameB dst = false ∨ nameB name = false) ∨ (nameB dst = true ∧ nameB name = true) := by
      cases nameB dst <;> cases nameB name <;> simp
    rcases hbad with hn | ⟨hn2, hn⟩
    · refine ⟨13, fun x => x = s.step, fun x => x = r.step, (rename_bad h.fs hd hz (by omega) name dst hml hml2 hn).mono ?_, fun W R hat => (HR W R hat).mono ?_, ?_⟩
      · rintro e w' ⟨rfl, h1, h2, _⟩
        exact ⟨rfl, ⟨_, _, rfl, h1⟩, h2⟩
      · rintro e w' ⟨r', c, h1, ⟨_, rfl, rfl⟩ | ⟨h2, h3, _⟩ | ⟨h2, h3, _⟩⟩
        · exact ⟨_, rfl, h1⟩
        · rcases hn with hn | hn
          · rw [hn] at h2; cases h2
          · rw [hn] at h3; cases h3
        · rcases hn with hn | hn
          · rw [hn] at h2; cases h2
          · rw [hn] at h3; cases h3
      · rintro _ _ rfl rfl
        exact h.rel.stepped
    · cases hx : s.now name with
      | some f =>
        have hat0 := (h.rel.dir h.fs.ok).some hx
        refine ⟨0, fun x => x = s.step.does ⟨name, dst, f⟩, fun x => x = r.step.waits ⟨1, name, dst, 0⟩, (rename_some h.fs hd hz (by omega) name dst hn2 hn hx).mono ?_, fun W R hat => (HR W R hat).mono ?_, ?_⟩
        · rintro e w' ⟨rfl, ⟨L', h1⟩, h2, _⟩
          exact ⟨rfl, ⟨_, _, rfl, h1⟩, h2⟩
        · rintro e w' ⟨r', c, h1, ⟨h2, _⟩ | ⟨_, _, h3, _⟩ | ⟨_, _, _, rfl, rfl⟩⟩
          · rcases h2 with h2 | h2
            · rw [hn2] at h2; cases h2
            · rw [hn] at h2; cases h2
          · omega
          · exact ⟨_, rfl, h1⟩
        · rintro _ _ rfl rfl
          exact h.rel.does (.inr (.inl ⟨rfl, rfl, rfl, name_ne hn, name_ne hn2⟩)) (fun _ => hat0.1)
      | none =>
        have hat0 := (h.rel.dir h.fs.ok).none hx
        refine ⟨16, fun x => x = s.step, fun x => x = r.step, (rename_none h.fs hd hz (by omega) name dst hn2 hn hx).mono ?_, fun W R hat => (HR W R hat).mono ?_, ?_⟩
        · rintro e w' ⟨rfl, h1, h2, _⟩
          exact ⟨rfl, ⟨_, _, rfl, h1⟩, h2⟩
        · rintro e w' ⟨r', c, h1, ⟨h2, _⟩ | ⟨_, _, _, rfl, rfl⟩ | ⟨_, _, h3, _⟩⟩
          · rcases h2 with h2 | h2
            · rw [hn2] at h2; cases h2
            · rw [hn] at h2; cases h2
          · exact ⟨_, rfl, h1⟩
          · omega
        · rintro _ _ rfl rfl
          exact h.rel.stepped
theorem remove_both (h : Ready0 base w b s L r k) (name : ByteArray) (hs : name.size ≤ 1000) :
    ∃ (c : Int) (P : St → Prop) (Q : RSt → Prop), Calls Try.prog 23 #[.pointer (some ⟨b, 0, none⟩), .string name] w (CAns base w b P c) ∧
      (∀ (W : World) (R : RLay), RAt W r R → Calls Try.prog 24 #[rval r R, .string name] W (QAns W Q c)) ∧ ∀ s' r', P s' → Q r' → Rel s' r' (k + 1) := by
  obtain ⟨l1, l2, l3, l4, l5, l6⟩ := h.low
  have hbd := h.bd
  have hml : name.size ≤ maxLen := by unfold maxLen; omega
  rcases down_cases s with hd | ⟨hd, hz⟩
  · refine ⟨17, fun x => x = s.fell, fun x => x = r.count r.steps r.left true, (remove_down h.fs hd name).mono ?_, fun W R hat => (rremove_down r R name W (by rw [h.rel.down, h.rel.left]; exact hd) hat).mono ?_, ?_⟩
    · rintro e w' ⟨rfl, h1, h2, _⟩
      exact ⟨rfl, ⟨_, _, rfl, h1⟩, h2⟩
    · intro e w' h1
      exact ⟨_, rfl, h1⟩
    · rintro _ _ rfl rfl
      exact h.rel.fell
  · have hrd : r.down = false := by rw [h.rel.down]; exact hd
    have hrz : r.left ≠ 0 := by rw [h.rel.left]; exact hz
    have HR := fun (W : World) (R : RLay) (hat : RAt W r R) => rremove_go r R name W hml hrd hrz hbd (by omega) (by omega) (by omega) hat
    cases hn : nameB name with
    | false =>
      refine ⟨13, fun x => x = s.step, fun x => x = r.step, (remove_bad h.fs hd hz (by omega) name hml hn).mono ?_, fun W R hat => (HR W R hat).mono ?_, ?_⟩
      · rintro e w' ⟨rfl, h1, h2, _⟩
        exact ⟨rfl, ⟨_, _, rfl, h1⟩, h2⟩
      · rintro e w' ⟨r', c, h1, ⟨_, rfl, rfl⟩ | ⟨h2, _⟩ | ⟨h2, _⟩⟩
        · exact ⟨_, rfl, h1⟩
        · rw [hn] at h2; cases h2
        · rw [hn] at h2; cases h2
      · rintro _ _ rfl rfl
        exact h.rel.stepped
    | true =>
      cases hx : s.now name with
      | some f =>
        have hat0 := (h.rel.dir h.fs.ok).some hx
        refine ⟨0, fun x => x = s.step.does ⟨name, ⟨#[]⟩, f⟩, fun x => x = r.step.waits ⟨2, name, ⟨#[]⟩, 0⟩, (remove_some h.fs hd hz (by omega) name hn hx).mono ?_, fun W R hat => (HR W R hat).mono ?_, ?_⟩
        · rintro e w' ⟨rfl, ⟨L', h1⟩, h2, _⟩
          exact ⟨rfl, ⟨_, _, rfl, h1⟩, h2⟩
        · rintro e w' ⟨r', c, h1, ⟨h2, _⟩ | ⟨_, h3, _⟩ | ⟨_, _, rfl, rfl⟩⟩
          · rw [hn] at h2; cases h2
          · omega
          · exact ⟨_, rfl, h1⟩
        · rintro _ _ rfl rfl
          exact h.rel.does (.inr (.inr ⟨rfl, rfl, name_ne hn, rfl⟩)) (fun e => by cases e)
      | none =>
        have hat0 := (h.rel.dir h.fs.ok).none hx
        refine ⟨16, fun x => x = s.step, fun x => x = r.step, (remove_none h.fs hd hz (by omega) name hn hx).mono ?_, fun W R hat => (HR W R hat).mono ?_, ?_⟩
        · rintro e w' ⟨rfl, h1, h2, _⟩
          exact ⟨rfl, ⟨_, _, rfl, h1⟩, h2⟩
        · rintro e w' ⟨r', c, h1, ⟨h2, _⟩ | ⟨_, _, rfl, rfl⟩ | ⟨_, h3, _⟩⟩
          · rw [hn] at h2; cases h2
          · exact ⟨_, rfl, h1⟩
          · omega
        · rintro _ _ rfl rfl
          exact h.rel.stepped
theorem syncdir_both (h : Ready0 base w b s L r k) :
    ∃ (c : Int) (P : St → Prop) (Q : RSt → Prop), Calls Try.prog 13 #[.pointer (some ⟨b, 0, none⟩)] w (CAns base w b P c) ∧
      (∀ (W : World) (R : RLay), RAt W r R → Calls Try.prog 25 #[rval r R] W (QAns W Q c)) ∧ ∀ s' r', P s' → Q r' → Rel s' r' (k + 1) := by
  obtain ⟨l1, l2, l3, l4, l5, l6⟩ := h.low
  have hbd := h.bd
  rcases down_cases s with hd | ⟨hd, hz⟩
  · refine ⟨17, fun x => x = s.fell, fun x => x = r.count r.steps r.left true, (syncdir_down h.fs hd).mono ?_, fun W R hat => (rsyncdir_down r R W (by rw [h.rel.down, h.rel.left]; exact hd)).mono ?_, ?_⟩
    · rintro e w' ⟨rfl, h1, h2, _⟩
      exact ⟨rfl, ⟨_, _, rfl, h1⟩, h2⟩
    · rintro e w' ⟨rfl, hf⟩
      exact ⟨_, rfl, R, rfl, (hat.count _ _ _).move hf, hf⟩
    · rintro _ _ rfl rfl
      exact h.rel.fell
  · have hrd : r.down = false := by rw [h.rel.down]; exact hd
    have hrz : r.left ≠ 0 := by rw [h.rel.left]; exact hz
    refine ⟨0, fun x => x = s.step.made, fun x => x = r.step.made, (syncdir_ok h.fs hd hz (by omega)).mono ?_, fun W R hat => (rsyncdir_ok r R W hrd hrz hbd (by omega)).mono ?_, ?_⟩
    · rintro e w' ⟨rfl, ⟨L', h1⟩, h2, _⟩
      exact ⟨rfl, ⟨_, _, rfl, h1⟩, h2⟩
    · rintro e w' ⟨rfl, hf⟩
      exact ⟨_, rfl, _, rfl, RAt.made ((hat.count _ _ _).move hf), hf⟩
    · rintro _ _ rfl rfl
      exact h.rel.made h.fs.ok
end Go.Proofs.Ytimcoofmemcojaa
