/-
  The code's state and the document's, held side by side: names alone. No call.
-/
import Derived.Test.YtimcoofmemcojaaRef7
namespace Go.Proofs.Ytimcoofmemcojaa

/-- What a deed does to a directory of the document's. -/
def onL (l : List Und) (e : RDeed) : List Und :=
  if e.kind = 0 then withoutL l e.dst ++ [(e.dst, e.file)] else if e.kind = 1 then withoutL (withoutL l e.src) e.dst ++ [(e.dst, atL l e.src)] else withoutL l e.src
def onAllL (l : List Und) (es : List RDeed) : List Und := es.foldl onL l
theorem onAllL_snoc (l : List Und) (es : List RDeed) (e : RDeed) : onAllL l (es ++ [e]) = onL (onAllL l es) e := by simp [onAllL]
theorem atL_without (l : List Und) (a b : ByteArray) : atL (withoutL l a) b = if b = a then -1 else atL l b := by
  induction l with
  | nil => simp [withoutL, atL]
  | cons u l ih =>
    have e : withoutL (u :: l) a = if u.1 = a then withoutL l a else u :: withoutL l a := by
      unfold withoutL
      by_cases h : u.1 = a <;> simp [h]
    rw [e]
    by_cases h : u.1 = a
    · rw [if_pos h, ih]
      by_cases hb : b = a
      · rw [if_pos hb, if_pos hb]
      · rw [if_neg hb, if_neg hb, atL, if_neg (by rw [h]; exact fun e => hb e.symm)]
    · rw [if_neg h, atL, ih]
      by_cases hu : u.1 = b
      · rw [if_pos hu, if_neg (by rw [← hu]; exact h), atL, if_pos hu]
      · rw [if_neg hu]
        by_cases hb : b = a
        · rw [if_pos hb, if_pos hb]
        · rw [if_neg hb, if_neg hb, atL, if_neg hu]
theorem atL_snoc (l : List Und) (a b : ByteArray) (f : Int) : atL (l ++ [(a, f)]) b = if atL l b = -1 ∧ ∀ u ∈ l, u.1 ≠ b then (if a = b then f else -1) else atL l b := by
  induction l with
  | nil => simp [atL]
  | cons u l ih =>
    rw [List.cons_append, atL]
    by_cases hu : u.1 = b
    · rw [if_pos hu, if_neg (fun h => h.2 u (by simp) hu), atL, if_pos hu]
    · rw [if_neg hu, ih]
      have e : atL (u :: l) b = atL l b := by rw [atL, if_neg hu]
      rw [e]
      by_cases h : atL l b = -1 ∧ ∀ u ∈ l, u.1 ≠ b
      · have h' : atL l b = -1 ∧ ∀ x ∈ u :: l, x.1 ≠ b := ⟨h.1, fun x hx => by
          rcases List.mem_cons.1 hx with rfl | hx
          · exact hu
          · exact h.2 x hx⟩
        rw [if_pos h, if_pos h']
      · rw [if_neg h, if_neg (fun k => h ⟨k.1, fun x hx => k.2 x (by simp [hx])⟩)]
/-- File numbers that are there. -/
def NumOk (l : List Und) (n : Nat) : Prop := ∀ u ∈ l, 0 ≤ u.2 ∧ u.2 < n
theorem NumOk.mono {l : List Und} {n n' : Nat} (h : NumOk l n) (hn : n ≤ n') : NumOk l n' := fun u hu => by have := h u hu; omega
theorem NumOk.without {l : List Und} {n : Nat} (h : NumOk l n) (a : ByteArray) : NumOk (withoutL l a) n := fun u hu => h u (List.mem_filter.1 hu).1
theorem NumOk.at {l : List Und} {n : Nat} (h : NumOk l n) (b : ByteArray) : (atL l b = -1 ∧ ∀ u ∈ l, u.1 ≠ b) ∨ (0 ≤ atL l b ∧ atL l b < n) := by
  induction l with
  | nil => exact .inl ⟨rfl, by simp⟩
  | cons u l ih =>
    rw [atL]
    by_cases hu : u.1 = b
    · rw [if_pos hu]; exact .inr (h u (by simp))
    · rw [if_neg hu]
      rcases ih (fun x hx => h x (by simp [hx])) with ⟨h1, h2⟩ | h1
      · exact .inl ⟨h1, fun x hx => by
          rcases List.mem_cons.1 hx with rfl | hx
          · exact hu
          · exact h2 x hx⟩
      · exact .inr h1
theorem atL_add {l : List Und} {n : Nat} (h : NumOk l n) (a b : ByteArray) (f : Int) : atL (withoutL l a ++ [(a, f)]) b = if b = a then f else atL l b := by
  rw [atL_snoc, atL_without]
  by_cases hb : b = a
  · subst hb
    rw [if_pos rfl, if_pos rfl, if_pos ⟨rfl, fun u hu => by
      have := (List.mem_filter.1 hu).2
      simpa using this⟩, if_pos rfl]
  · rw [if_neg hb, if_neg hb]
    rcases (h.without a).at b with ⟨h1, h2⟩ | h1
    · rw [atL_without, if_neg hb] at h1
      rw [if_pos ⟨h1, h2⟩, if_neg (fun e => hb e.symm), h1]
    · rw [atL_without, if_neg hb] at h1
      rw [if_neg (fun e => by omega)]
/-- The same names. -/
structure DirRel (m : Dir) (l : List Und) (n : Nat) : Prop where
  same : ∀ s, (m s).isSome = true ↔ 0 ≤ atL l s
  num : NumOk l n
theorem DirRel.mono {m : Dir} {l : List Und} {n n' : Nat} (h : DirRel m l n) (hn : n ≤ n') : DirRel m l n' := ⟨h.same, h.num.mono hn⟩
theorem DirRel.none {m : Dir} {l : List Und} {n : Nat} (h : DirRel m l n) {s : ByteArray} (hs : m s = none) : atL l s = -1 := by
  rcases h.num.at s with h1 | h1
  · exact h1.1
  · have := (h.same s).2 h1.1
    rw [hs] at this; cases this
theorem DirRel.some {m : Dir} {l : List Und} {n f : Nat} (h : DirRel m l n) {s : ByteArray} (hs : m s = some f) : 0 ≤ atL l s ∧ atL l s < n := by
  have h0 := (h.same s).1 (by rw [hs]; rfl)
  rcases h.num.at s with h1 | h1
  · omega
  · exact h1
/-- The same deed. -/
def DeedRel (d : Deed) (e : RDeed) (n : Nat) : Prop :=
  (e.kind = 0 ∧ d.src.size = 0 ∧ d.dst = e.dst ∧ d.dst.size ≠ 0 ∧ 0 ≤ e.file ∧ e.file < n) ∨ (e.kind = 1 ∧ d.src = e.src ∧ d.dst = e.dst ∧ d.src.size ≠ 0 ∧ d.dst.size ≠ 0) ∨ (e.kind = 2 ∧ d.src = e.src ∧ d.src.size ≠ 0 ∧ d.dst.size = 0)
theorem DeedRel.mono {d : Deed} {e : RDeed} {n n' : Nat} (h : DeedRel d e n) (hn : n ≤ n') : DeedRel d e n' := by
  rcases h with h | h | h
  · exact .inl ⟨h.1, h.2.1, h.2.2.1, h.2.2.2.1, h.2.2.2.2.1, by omega⟩
  · exact .inr (.inl h)
  · exact .inr (.inr h)
theorem DirRel.on {m : Dir} {l : List Und} {n : Nat} (h : DirRel m l n) {d : Deed} {e : RDeed} (hd : DeedRel d e n) (hs : e.kind = 1 → 0 ≤ atL l e.src) : DirRel (d.on m) (onL l e) n := by
  rcases hd with ⟨h1, h2, h3, h4, h5, h6⟩ | ⟨h1, h2, h3, h4, h5⟩ | ⟨h1, h2, h3, h4⟩
  · have eL : onL l e = withoutL l e.dst ++ [(e.dst, e.file)] := by rw [onL, if_pos h1]
    rw [eL]
    refine ⟨fun s => ?_, fun u hu => ?_⟩
    · rw [atL_add h.num, Deed.on]
      by_cases hs2 : s = e.dst
      · rw [if_pos ⟨h4, by rw [h3]; exact hs2⟩, if_pos hs2]; simp [h5]
      · rw [if_neg (fun k => hs2 (by rw [← h3]; exact k.2)), if_neg (fun k => k.1 h2), if_neg hs2]; exact h.same s
    · rcases List.mem_append.1 hu with hu | hu
      · exact h.num.without _ u hu
      · rw [List.mem_singleton] at hu; subst hu; exact ⟨h5, h6⟩
  · have hx := hs h1
    have eL : onL l e = withoutL (withoutL l e.src) e.dst ++ [(e.dst, atL l e.src)] := by rw [onL, if_neg (by omega), if_pos h1]
    rw [eL]
    have hb : 0 ≤ atL l e.src ∧ atL l e.src < n := by
      rcases h.num.at e.src with k | k
      · omega
      · exact k
    refine ⟨fun s => ?_, fun u hu => ?_⟩
    · rw [atL_add (h.num.without _), atL_without, ← h2, ← h3, Deed.on]
      by_cases hs2 : s = d.dst
      · rw [if_pos ⟨h5, hs2⟩, if_pos hs2, h2]; simp [hx]
      · rw [if_neg (fun k => hs2 k.2), if_neg hs2]
        by_cases hs3 : s = d.src
        · rw [if_pos ⟨h4, hs3⟩, if_pos hs3]; simp
        · rw [if_neg (fun k => hs3 k.2), if_neg hs3]; exact h.same s
    · rcases List.mem_append.1 hu with hu | hu
      · exact (h.num.without _).without _ u hu
      · rw [List.mem_singleton] at hu; subst hu; exact hb
  · have eL : onL l e = withoutL l e.src := by rw [onL, if_neg (by omega), if_neg (by omega)]
    rw [eL]
    refine ⟨fun s => ?_, h.num.without _⟩
    rw [atL_without, Deed.on, if_neg (fun k => k.1 h4)]
    by_cases hs2 : s = e.src
    · rw [if_pos ⟨h3, by rw [h2]; exact hs2⟩, if_pos hs2]; simp
    · rw [if_neg (fun k => hs2 (by rw [← h2]; exact k.2)), if_neg hs2]; exact h.same s
/-- What waits, deed by deed; a file that goes is there when its turn comes. -/
def WaitRel (n : Nat) : Dir → List Und → List Deed → List RDeed → Prop
  | _, _, [], [] => True
  | m, l, d :: ds, e :: es => DeedRel d e n ∧ (e.kind = 1 → 0 ≤ atL l e.src) ∧ WaitRel n (d.on m) (onL l e) ds es
  | _, _, _, _ => False
theorem WaitRel.len {n : Nat} : ∀ {m : Dir} {l : List Und} {ds : List Deed} {es : List RDeed}, WaitRel n m l ds es → ds.length = es.length
  | _, _, [], [], _ => rfl
  | _, _, _ :: ds, _ :: es, h => by rw [List.length_cons, List.length_cons, WaitRel.len h.2.2]
  | _, _, [], _ :: _, h => h.elim
  | _, _, _ :: _, [], h => h.elim
theorem WaitRel.mono {n n' : Nat} (hn : n ≤ n') : ∀ {m : Dir} {l : List Und} {ds : List Deed} {es : List RDeed}, WaitRel n m l ds es → WaitRel n' m l ds es
  | _, _, [], [], _ => trivial
  | _, _, _ :: _, _ :: _, h => ⟨h.1.mono hn, h.2.1, WaitRel.mono hn h.2.2⟩
  | _, _, [], _ :: _, h => h.elim
  | _, _, _ :: _, [], h => h.elim
theorem WaitRel.dir {n : Nat} : ∀ {m : Dir} {l : List Und} {ds : List Deed} {es : List RDeed}, DirRel m l n → WaitRel n m l ds es → DirRel (onAll m ds) (onAllL l es) n
  | _, _, [], [], h, _ => h
  | _, _, _ :: _, _ :: _, h, k => by
    have := WaitRel.dir (h.on k.1 k.2.1) k.2.2
    exact this
  | _, _, [], _ :: _, _, h => h.elim
  | _, _, _ :: _, [], _, h => h.elim
theorem WaitRel.take {n : Nat} : ∀ (k : Nat) {m : Dir} {l : List Und} {ds : List Deed} {es : List RDeed}, WaitRel n m l ds es → WaitRel n m l (ds.take k) (es.take k)
  | 0, _, _, _, _, _ => trivial
  | _ + 1, _, _, [], [], _ => trivial
  | k + 1, _, _, _ :: _, _ :: _, h => ⟨h.1, h.2.1, WaitRel.take k h.2.2⟩
  | _ + 1, _, _, [], _ :: _, h => h.elim
  | _ + 1, _, _, _ :: _, [], h => h.elim
theorem WaitRel.snoc {n : Nat} {d : Deed} {e : RDeed} (hd : DeedRel d e n) : ∀ {m : Dir} {l : List Und} {ds : List Deed} {es : List RDeed}, WaitRel n m l ds es → (e.kind = 1 → 0 ≤ atL (onAllL l es) e.src) → WaitRel n m l (ds ++ [d]) (es ++ [e])
  | _, _, [], [], _, hs => ⟨hd, hs, trivial⟩
  | _, _, _ :: _, _ :: _, h, hs => ⟨h.1, h.2.1, WaitRel.snoc hd h.2.2 hs⟩
  | _, _, [], _ :: _, h, _ => h.elim
  | _, _, _ :: _, [], h, _ => h.elim
theorem onL_len (l : List Und) (e : RDeed) : (onL l e).length ≤ l.length + 1 := by
  unfold onL
  split
  · have := withoutL_len l e.dst
    rw [List.length_append]; simp; omega
  · split
    · have := withoutL_len l e.src
      have := withoutL_len (withoutL l e.src) e.dst
      rw [List.length_append]; simp; omega
    · have := withoutL_len l e.src
      omega
theorem onAllL_len : ∀ (es : List RDeed) (l : List Und), (onAllL l es).length ≤ l.length + es.length
  | [], l => Nat.le_refl _
  | e :: es, l => by
    have h1 := onAllL_len es (onL l e)
    have h2 := onL_len l e
    show (onAllL (onL l e) es).length ≤ _
    rw [List.length_cons]; omega
/-- The two states tell the same, behind at most k acts. -/
structure Rel (s : St) (r : RSt) (k : Nat) : Prop where
  left : r.left = s.left
  steps : r.steps = s.steps
  down : r.down = s.down
  safe : DirRel s.safe r.safe r.files.length
  wait : WaitRel r.files.length s.safe r.safe s.wait r.wait
  now : r.now = onAllL r.safe r.wait
  sf : r.files.length ≤ k
  sw : r.safe.length + r.wait.length ≤ k
  ss : s.steps ≤ k
theorem Rel.dir {s : St} {r : RSt} {k : Nat} (h : Rel s r k) (ok : s.Ok) : DirRel s.now r.now r.files.length := by
  rw [← ok.fold, h.now]
  exact h.wait.dir h.safe
theorem Rel.nowlen {s : St} {r : RSt} {k : Nat} (h : Rel s r k) : r.now.length ≤ k := by
  rw [h.now]
  exact Nat.le_trans (onAllL_len _ _) h.sw
theorem Rel.mono {s : St} {r : RSt} {k k' : Nat} (h : Rel s r k) (hk : k ≤ k') : Rel s r k' := ⟨h.left, h.steps, h.down, h.safe, h.wait, h.now, Nat.le_trans h.sf hk, Nat.le_trans h.sw hk, Nat.le_trans h.ss hk⟩
end Go.Proofs.Ytimcoofmemcojaa
