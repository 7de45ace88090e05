/- The walk of the landed reader's values, whole. -/
import Derived.Test.YtpkmbhnikilihaaGreatDoorQj15
namespace Go.Proofs.YtpkmbhnikilihaaGreatDoor
open Go.RowKit

theorem vals_all : ∀ f g, g ≤ f → ValC g ∧ MemC g := by
  intro f
  induction f with
  | zero =>
    intro g hg
    obtain rfl : g = 0 := by omega
    exact ⟨fun fx d ts r w hf => by omega, fun fx d ts r w hf => by omega⟩
  | succ f ih =>
    intro g hg
    by_cases h : g ≤ f
    · exact ih g h
    · obtain rfl : g = f + 1 := by omega
      exact ⟨val_step f (plist_any f (fun k hk => (ih k (by omega)).1)) (pmap_any f (fun k hk => (ih k (by omega)).2)), mem_step f (ih f (Nat.le_refl _)).1⟩
theorem value_any (f : Nat) : ValC f := (vals_all f f (Nat.le_refl _)).1
theorem member_any (f : Nat) : MemC f := (vals_all f f (Nat.le_refl _)).2
end Go.Proofs.YtpkmbhnikilihaaGreatDoor
/- The landed reader of documents, as plain functions of tokens. -/
namespace Go.Proofs.YtpkmbhnikilihaaGreatDoor
open Go.RowKit

def opB : ByteArray := ⟨#[40]⟩
def cpB : ByteArray := ⟨#[41]⟩
def atmB : ByteArray := ⟨#[64]⟩
def dotB : ByteArray := ⟨#[46, 46, 46]⟩
def eqB : ByteArray := ⟨#[61]⟩
def onB : ByteArray := ⟨#[111, 110]⟩
def queryB : ByteArray := ⟨#[113, 117, 101, 114, 121]⟩
def mutB : ByteArray := ⟨#[109, 117, 116, 97, 116, 105, 111, 110]⟩
def fragB : ByteArray := ⟨#[102, 114, 97, 103, 109, 101, 110, 116]⟩
def eB : ByteArray := ⟨#[]⟩
def valD (fx : Bool) (d : Nat) (ts : List Tok) : Except Int (VT × List Tok) := valR (2 * ts.length + 1) fx d ts
def memD (fx : Bool) (d : Nat) (ts : List Tok) : Except Int ((ByteArray × VT) × List Tok) := memR (2 * ts.length + 1) fx d ts
/-- One or more, up to the sign. -/
def serR {α ρ : Type} (one : List Tok → Except Int (α × List Tok)) (add : ρ → α → ρ) (e : ByteArray) : Nat → ρ → List Tok → Except Int (ρ × List Tok)
  | 0, _, _ => .error 2
  | f + 1, acc, ts =>
    match one ts with
    | .error x => .error x
    | .ok (a, r) => if atB 1 e r = true then .ok (add acc a, r.tail) else serR one add e f (add acc a) r
def addM (l : VM) (p : ByteArray × VT) : VM := l.snoc p.1 p.2
def addL {α : Type} (l : List α) (a : α) : List α := l ++ [a]
def argsR (fx : Bool) (d : Nat) (ts : List Tok) : Except Int (VM × List Tok) :=
  if atB 1 opB ts = true then serR (memD fx d) addM cpB (ts.tail.length + 1) .nil ts.tail else .ok (.nil, ts)
def dirsF (fx : Bool) (d : Nat) : Nat → List DirT → List Tok → Except Int (List DirT × List Tok)
  | 0, _, _ => .error 2
  | f + 1, acc, ts =>
    if atB 1 atmB ts = true then
      match nameR ts.tail with
      | none => .error 2
      | some (n, r) =>
        match argsR fx d r with
        | .error x => .error x
        | .ok (m, r2) => dirsF fx d f (acc ++ [(n, m)]) r2
    else .ok (acc, ts)
def dirsR (fx : Bool) (d : Nat) (ts : List Tok) : Except Int (List DirT × List Tok) := dirsF fx d (ts.length + 1) [] ts
abbrev SelsF := List Tok → Except Int (SelL × List Tok)
def inlineR (S : SelsF) (d : Nat) (o : ByteArray) (ts : List Tok) : Except Int (SelT × List Tok) :=
  match dirsR false d ts with
  | .error x => .error x
  | .ok (ds, r) =>
    match S r with
    | .error x => .error x
    | .ok (s, r2) => .ok (.mk 2 eB eB .nil ds o s, r2)
def spreadR (S : SelsF) (d : Nat) (ts : List Tok) : Except Int (SelT × List Tok) :=
  if atB 2 onB ts = true then
    match nameR ts.tail with
    | none => .error 2
    | some (o, r) => inlineR S d o r
  else
    match nameR ts with
    | some (n, r) =>
      match dirsR false d r with
      | .error x => .error x
      | .ok (ds, r2) => .ok (.mk 1 eB n .nil ds eB .nil, r2)
    | none => inlineR S d eB ts
def restR (S : SelsF) (d : Nat) (al nm : ByteArray) (ts : List Tok) : Except Int (SelT × List Tok) :=
  match argsR false d ts with
  | .error x => .error x
  | .ok (g, r) =>
    match dirsR false d r with
    | .error x => .error x
    | .ok (ds, r2) =>
      if atB 1 omB r2 = true then
        match S r2 with
        | .error x => .error x
        | .ok (s, r3) => .ok (.mk 0 al nm g ds eB s, r3)
      else .ok (.mk 0 al nm g ds eB .nil, r2)
def fieldR (S : SelsF) (d : Nat) (ts : List Tok) : Except Int (SelT × List Tok) :=
  match nameR ts with
  | none => .error 2
  | some (n, r) =>
    if atB 1 colB r = true then
      match nameR r.tail with
      | none => .error 2
      | some (n2, r2) => restR S d n n2 r2
    else restR S d eB n r
def selOne (S : SelsF) (d : Nat) (ts : List Tok) : Except Int (SelT × List Tok) :=
  if atB 1 dotB ts = true then spreadR S d ts.tail else fieldR S d ts
def addS (l : SelL) (x : SelT) : SelL := l.snoc x
mutual
def selsR : Nat → Nat → List Tok → Except Int (SelL × List Tok)
  | 0, _, _ => .error 2
  | f + 1, d, ts => if atB 1 omB ts = true then (if d = 16 then .error 4 else serR (selR f (d + 1)) addS cmB (ts.tail.length + 1) .nil ts.tail) else .error 2
def selR : Nat → Nat → List Tok → Except Int (SelT × List Tok)
  | 0, _, _ => .error 2
  | f + 1, d, ts => selOne (selsR f d) d ts
end
def selsD (d : Nat) (ts : List Tok) : Except Int (SelL × List Tok) := selsR (ts.length + 1) d ts
def zeroT : VT := .mk 0 0 eB .nil .nil
def varR (d : Nat) (ts : List Tok) : Except Int (VarT × List Tok) :=
  if atB 1 dolB ts = true then
    match nameR ts.tail with
    | none => .error 2
    | some (n, r) =>
      if atB 1 colB r = true then
        match typeR 4 r.tail with
        | .error x => .error x
        | .ok (t, r2) =>
          if atB 1 eqB r2 = true then
            match valD true d r2.tail with
            | .error x => .error x
            | .ok (v, r3) => .ok (⟨n, t.1, t.2.1, t.2.2, true, v⟩, r3)
          else .ok (⟨n, t.1, t.2.1, t.2.2, false, zeroT⟩, r2)
      else .error 2
  else .error 2
def varsR (d : Nat) (ts : List Tok) : Except Int (List VarT × List Tok) :=
  if atB 1 opB ts = true then serR (varR d) addL cpB (ts.tail.length + 1) [] ts.tail else .ok ([], ts)
def opRest (kind : Int) (d : Nat) (nm : ByteArray) (ts : List Tok) : Except Int (OpT × List Tok) :=
  match varsR d ts with
  | .error x => .error x
  | .ok (vs, r) =>
    match dirsR true d r with
    | .error x => .error x
    | .ok (ds, r2) =>
      match selsD d r2 with
      | .error x => .error x
      | .ok (s, r3) => .ok (⟨kind, nm, vs, ds, s⟩, r3)
def opR (kind : Int) (d : Nat) (ts : List Tok) : Except Int (OpT × List Tok) :=
  match nameR ts with
  | some (n, r) => opRest kind d n r
  | none => opRest kind d eB ts
def fragR (d : Nat) (ts : List Tok) : Except Int (FragT × List Tok) :=
  if atB 2 onB ts = true then .error 2 else
    match nameR ts with
    | none => .error 2
    | some (n, r) =>
      if atB 2 onB r = true then
        match nameR r.tail with
        | none => .error 2
        | some (o, r2) =>
          match dirsR true d r2 with
          | .error x => .error x
          | .ok (ds, r3) =>
            match selsD d r3 with
            | .error x => .error x
            | .ok (s, r4) => .ok (⟨n, o, ds, s⟩, r4)
      else .error 2
structure DocT where
  ops : List OpT
  frags : List FragT
/-- One definition more. -/
def defR (D : DocT) (ts : List Tok) : Except Int (DocT × List Tok) :=
  if atB 1 omB ts = true then
    match selsD 0 ts with
    | .error x => .error x
    | .ok (s, r) => .ok (⟨D.ops ++ [⟨0, eB, [], [], s⟩], D.frags⟩, r)
  else if atB 2 queryB ts = true then
    match opR 0 0 ts.tail with
    | .error x => .error x
    | .ok (o, r) => .ok (⟨D.ops ++ [o], D.frags⟩, r)
  else if atB 2 mutB ts = true then
    match opR 1 0 ts.tail with
    | .error x => .error x
    | .ok (o, r) => .ok (⟨D.ops ++ [o], D.frags⟩, r)
  else if atB 2 fragB ts = true then
    match fragR 0 ts.tail with
    | .error x => .error x
    | .ok (o, r) => .ok (⟨D.ops, D.frags ++ [o]⟩, r)
  else .error 2
def docF : Nat → DocT → List Tok → Except Int DocT
  | 0, _, _ => .error 2
  | f + 1, D, ts =>
    match defR D ts with
    | .error x => .error x
    | .ok (D', r) => if r.isEmpty = true then .ok D' else docF f D' r
def docR (ts : List Tok) : Except Int DocT := docF (ts.length + 1) ⟨[], []⟩ ts
/-- What is left is the end of what there was, and less. -/
def Sfx (r ts : List Tok) : Prop := r <:+ ts ∧ r.length < ts.length
theorem Sfx.trans {a b c : List Tok} (h : Sfx a b) (h' : Sfx b c) : Sfx a c := ⟨h.1.trans h'.1, Nat.lt_trans h.2 h'.2⟩
theorem Sfx.le {a b c : List Tok} (h : Sfx a b) (h' : b <:+ c) : Sfx a c := ⟨h.1.trans h', Nat.lt_of_lt_of_le h.2 h'.length_le⟩
theorem Sfx.of {a b c : List Tok} (h : a <:+ b) (h' : Sfx b c) : Sfx a c := ⟨h.trans h'.1, Nat.lt_of_le_of_lt h.length_le h'.2⟩
theorem at_sfx {k : Int} {s : ByteArray} {ts : List Tok} (h : atB k s ts = true) : Sfx ts.tail ts := by
  cases ts with
  | nil => cases h
  | cons t ts => exact ⟨⟨[t], rfl⟩, Nat.lt_succ_self _⟩
theorem name_sfx {ts r : List Tok} {s : ByteArray} (h : nameR ts = some (s, r)) : Sfx r ts := by
  cases ts with
  | nil => cases h
  | cons t ts =>
    change (if t.1 = 2 then some (t.2, ts) else none) = some (s, r) at h
    split at h
    · have := (Prod.mk.inj (Option.some.inj h)).2
      subst this; exact ⟨⟨[t], rfl⟩, Nat.lt_succ_self _⟩
    · cases h
theorem one_sfx {ts r : List Tok} {v : VT} (h : oneR ts = .ok (v, r)) : Sfx r ts := by
  cases ts with
  | nil => cases h
  | cons t ts =>
    unfold oneR at h
    simp only at h
    cases hs : singleR t with
    | none => rw [hs] at h; cases h
    | some q =>
      rw [hs] at h
      have e := (Prod.mk.inj (Except.ok.inj h)).2
      subst e; exact ⟨⟨[t], rfl⟩, Nat.lt_succ_self _⟩
theorem read_sfx : ∀ f : Nat,
    (∀ fx d ts v r, valR f fx d ts = .ok (v, r) → Sfx r ts) ∧
    (∀ fx d acc ts l r, itemsR f fx d acc ts = .ok (l, r) → Sfx r ts) ∧
    (∀ fx d acc ts l r, memsR f fx d acc ts = .ok (l, r) → Sfx r ts) ∧
    (∀ fx d ts p r, memR f fx d ts = .ok (p, r) → Sfx r ts) := by
  intro f
  induction f with
  | zero =>
    refine ⟨fun _ _ _ _ _ h => ?_, fun _ _ _ _ _ _ h => ?_, fun _ _ _ _ _ _ h => ?_, fun _ _ _ _ _ h => ?_⟩
    · rw [valR] at h; cases h
    · rw [itemsR] at h; cases h
    · rw [memsR] at h; cases h
    · rw [memR] at h; cases h
  | succ f ih =>
    obtain ⟨iv, il, im, ib⟩ := ih
    refine ⟨fun fx d ts v r h => ?_, fun fx d acc ts l r h => ?_, fun fx d acc ts l r h => ?_, fun fx d ts p r h => ?_⟩
    · rw [valR] at h
      split at h
      · rename_i ha
        have := at_sfx ha
        split at h
        · cases h
        · cases hi : itemsR f fx (d + 1) .nil ts.tail with
          | error e => rw [hi] at h; cases h
          | ok q =>
            obtain ⟨l, r'⟩ := q
            rw [hi] at h
            have h2 := il _ _ _ _ _ _ hi
            have e := (Prod.mk.inj (Except.ok.inj h)).2
            subst e; exact h2.trans this
      · split at h
        · rename_i ha
          have := at_sfx ha
          split at h
          · cases h
          · cases hi : memsR f fx (d + 1) .nil ts.tail with
            | error e => rw [hi] at h; cases h
            | ok q =>
              obtain ⟨l, r'⟩ := q
              rw [hi] at h
              have h2 := im _ _ _ _ _ _ hi
              have e := (Prod.mk.inj (Except.ok.inj h)).2
              subst e; exact h2.trans this
        · split at h
          · rename_i ha
            have := at_sfx (show atB 1 dolB ts = true by cases fx <;> simp_all)
            cases hn : nameR ts.tail with
            | none => rw [hn] at h; cases h
            | some q =>
              obtain ⟨s, r'⟩ := q
              rw [hn] at h
              have h2 := name_sfx hn
              have e := (Prod.mk.inj (Except.ok.inj h)).2
              subst e; exact h2.trans this
          · exact one_sfx h
    · rw [itemsR] at h
      split at h
      · rename_i ha
        have := at_sfx ha
        have e := (Prod.mk.inj (Except.ok.inj h)).2
        subst e; exact this
      · cases hi : valR f fx d ts with
        | error e => rw [hi] at h; cases h
        | ok q =>
          obtain ⟨v, r'⟩ := q
          rw [hi] at h
          exact (il _ _ _ _ _ _ h).trans (iv _ _ _ _ _ hi)
    · rw [memsR] at h
      split at h
      · rename_i ha
        have := at_sfx ha
        have e := (Prod.mk.inj (Except.ok.inj h)).2
        subst e; exact this
      · cases hi : memR f fx d ts with
        | error e => rw [hi] at h; cases h
        | ok q =>
          obtain ⟨⟨nm, v⟩, r'⟩ := q
          rw [hi] at h
          exact (im _ _ _ _ _ _ h).trans (ib _ _ _ _ _ hi)
    · rw [memR] at h
      cases hn : nameR ts with
      | none => rw [hn] at h; cases h
      | some q =>
        obtain ⟨nm, r'⟩ := q
        rw [hn] at h
        have h0 := name_sfx hn
        simp only at h
        split at h
        · rename_i ha
          have h1 := at_sfx ha
          cases hi : valR f fx d r'.tail with
          | error e => rw [hi] at h; cases h
          | ok q =>
            obtain ⟨v, r2⟩ := q
            rw [hi] at h
            have h2 := iv _ _ _ _ _ hi
            have e := (Prod.mk.inj (Except.ok.inj h)).2
            subst e; exact (h2.trans h1).trans h0
        · cases h
theorem val_sfx {fx : Bool} {d : Nat} {ts r : List Tok} {v : VT} (h : valD fx d ts = .ok (v, r)) : Sfx r ts := (read_sfx _).1 _ _ _ _ _ h
theorem mem_sfx {fx : Bool} {d : Nat} {ts r : List Tok} {p : ByteArray × VT} (h : memD fx d ts = .ok (p, r)) : Sfx r ts := (read_sfx _).2.2.2 _ _ _ _ _ h
theorem ser_sfx {α ρ : Type} {one : List Tok → Except Int (α × List Tok)} {add : ρ → α → ρ} {e : ByteArray} (H : ∀ ts a r, one ts = .ok (a, r) → Sfx r ts) : ∀ (f : Nat) (acc : ρ) (ts r : List Tok) (l : ρ), serR one add e f acc ts = .ok (l, r) → Sfx r ts
  | 0, _, _, _, _, h => by cases h
  | f + 1, acc, ts, r, l, h => by
    rw [serR] at h
    cases ho : one ts with
    | error x => rw [ho] at h; cases h
    | ok p =>
      obtain ⟨a, r1⟩ := p
      rw [ho] at h
      simp only at h
      split at h
      · rename_i ha
        have e := (Prod.mk.inj (Except.ok.inj h)).2
        subst e
        exact (at_sfx ha).trans (H _ _ _ ho)
      · exact (ser_sfx H f _ _ _ _ h).trans (H _ _ _ ho)
theorem args_sfx {fx : Bool} {d : Nat} {ts r : List Tok} {l : VM} (h : argsR fx d ts = .ok (l, r)) : r <:+ ts := by
  unfold argsR at h
  split at h
  · rename_i ha
    exact ((ser_sfx (fun _ _ _ h => mem_sfx h) _ _ _ _ _ h).trans (at_sfx ha)).1
  · have e := (Prod.mk.inj (Except.ok.inj h)).2
    subst e; exact List.suffix_refl _
theorem dirsF_sfx {fx : Bool} {d : Nat} : ∀ (f : Nat) (acc : List DirT) (ts r : List Tok) (l : List DirT), dirsF fx d f acc ts = .ok (l, r) → r <:+ ts
  | 0, _, _, _, _, h => by cases h
  | f + 1, acc, ts, r, l, h => by
    rw [dirsF] at h
    split at h
    · rename_i ha
      cases hn : nameR ts.tail with
      | none => rw [hn] at h; cases h
      | some q =>
        obtain ⟨n, r1⟩ := q
        rw [hn] at h
        simp only at h
        cases hg : argsR fx d r1 with
        | error x => rw [hg] at h; cases h
        | ok q =>
          obtain ⟨m, r2⟩ := q
          rw [hg] at h
          exact (dirsF_sfx f _ _ _ _ h).trans ((args_sfx hg).trans ((name_sfx hn).1.trans (at_sfx ha).1))
    · have e := (Prod.mk.inj (Except.ok.inj h)).2
      subst e; exact List.suffix_refl _
theorem dirs_sfx {fx : Bool} {d : Nat} {ts r : List Tok} {l : List DirT} (h : dirsR fx d ts = .ok (l, r)) : r <:+ ts := dirsF_sfx _ _ _ _ _ h
theorem typ_sfx : ∀ (left : Nat) (ts r : List Tok) (t : ByteArray × Nat × Nat), typeR left ts = .ok (t, r) → Sfx r ts := by
  have hb : ∀ n l m ts, (bangR n l m ts).2 <:+ ts := by
    intro n l m ts
    unfold bangR
    split
    · rename_i ha; exact (at_sfx ha).1
    · exact List.suffix_refl _
  have hname : ∀ left ts r t, atB 1 oB ts = false → typeR left ts = .ok (t, r) → Sfx r ts := by
    intro left ts r t ho h
    rw [typeR_name ho] at h
    cases hn : nameR ts with
    | none => rw [hn] at h; cases h
    | some q =>
      obtain ⟨n, r1⟩ := q
      rw [hn] at h
      have e := Except.ok.inj h
      have e2 : (bangR n 0 0 r1).2 = r := by rw [e]
      subst e2
      exact Sfx.of (hb _ _ _ _) (name_sfx hn)
  intro left
  induction left with
  | zero =>
    intro ts r t h
    cases ho : atB 1 oB ts with
    | false => exact hname _ _ _ _ ho h
    | true => rw [typeR_deep ho] at h; cases h
  | succ left ih =>
    intro ts r t h
    cases ho : atB 1 oB ts with
    | false => exact hname _ _ _ _ ho h
    | true =>
      rw [typeR_list ho] at h
      cases ht : typeR left ts.tail with
      | error x => rw [ht] at h; cases h
      | ok q =>
        obtain ⟨⟨n, l, m⟩, r1⟩ := q
        rw [ht] at h
        simp only at h
        split at h
        · rename_i hc
          have e := Except.ok.inj h
          have e2 : (bangR n (l + 1) (2 * m) r1.tail).2 = r := by rw [e]
          subst e2
          exact Sfx.of (hb _ _ _ _) (((at_sfx hc).trans (ih _ _ _ ht)).trans (at_sfx ho))
        · cases h
theorem inline_sfx {S : SelsF} (H : ∀ ts l r, S ts = .ok (l, r) → Sfx r ts) {d : Nat} {o : ByteArray} {ts r : List Tok} {x : SelT} (h : inlineR S d o ts = .ok (x, r)) : Sfx r ts := by
  unfold inlineR at h
  cases hd : dirsR false d ts with
  | error x => rw [hd] at h; cases h
  | ok q =>
    obtain ⟨ds, r1⟩ := q
    rw [hd] at h
    simp only at h
    cases hs : S r1 with
    | error x => rw [hs] at h; cases h
    | ok q =>
      obtain ⟨s, r2⟩ := q
      rw [hs] at h
      have e := (Prod.mk.inj (Except.ok.inj h)).2
      subst e
      exact (H _ _ _ hs).le (dirs_sfx hd)
theorem spread_sfx {S : SelsF} (H : ∀ ts l r, S ts = .ok (l, r) → Sfx r ts) {d : Nat} {ts r : List Tok} {x : SelT} (h : spreadR S d ts = .ok (x, r)) : Sfx r ts := by
  unfold spreadR at h
  split at h
  · rename_i ha
    cases hn : nameR ts.tail with
    | none => rw [hn] at h; cases h
    | some q =>
      obtain ⟨o, r1⟩ := q
      rw [hn] at h
      exact (inline_sfx H h).le ((name_sfx hn).1.trans (at_sfx ha).1)
  · cases hn : nameR ts with
    | none => rw [hn] at h; exact inline_sfx H h
    | some q =>
      obtain ⟨n, r1⟩ := q
      rw [hn] at h
      simp only at h
      cases hd : dirsR false d r1 with
      | error x => rw [hd] at h; cases h
      | ok q =>
        obtain ⟨ds, r2⟩ := q
        rw [hd] at h
        have e := (Prod.mk.inj (Except.ok.inj h)).2
        subst e
        exact Sfx.of (dirs_sfx hd) (name_sfx hn)
theorem rest_sfx {S : SelsF} (H : ∀ ts l r, S ts = .ok (l, r) → Sfx r ts) {d : Nat} {al nm : ByteArray} {ts r : List Tok} {x : SelT} (h : restR S d al nm ts = .ok (x, r)) : r <:+ ts := by
  unfold restR at h
  cases hg : argsR false d ts with
  | error x => rw [hg] at h; cases h
  | ok q =>
    obtain ⟨g, r0⟩ := q
    rw [hg] at h
    simp only at h
    cases hd : dirsR false d r0 with
    | error x => rw [hd] at h; cases h
    | ok q =>
      obtain ⟨ds, r1⟩ := q
      rw [hd] at h
      simp only at h
      split at h
      · cases hs : S r1 with
        | error x => rw [hs] at h; cases h
        | ok q =>
          obtain ⟨s, r2⟩ := q
          rw [hs] at h
          have e := (Prod.mk.inj (Except.ok.inj h)).2
          subst e
          exact (H _ _ _ hs).1.trans ((dirs_sfx hd).trans (args_sfx hg))
      · have e := (Prod.mk.inj (Except.ok.inj h)).2
        subst e
        exact (dirs_sfx hd).trans (args_sfx hg)
theorem field_sfx {S : SelsF} (H : ∀ ts l r, S ts = .ok (l, r) → Sfx r ts) {d : Nat} {ts r : List Tok} {x : SelT} (h : fieldR S d ts = .ok (x, r)) : Sfx r ts := by
  unfold fieldR at h
  cases hn : nameR ts with
  | none => rw [hn] at h; cases h
  | some q =>
    obtain ⟨n, r1⟩ := q
    rw [hn] at h
    simp only at h
    split at h
    · rename_i ha
      cases hm : nameR r1.tail with
      | none => rw [hm] at h; cases h
      | some q =>
        obtain ⟨n2, r2⟩ := q
        rw [hm] at h
        exact Sfx.of (rest_sfx H h) (((name_sfx hm).trans (at_sfx ha)).trans (name_sfx hn))
    · exact Sfx.of (rest_sfx H h) (name_sfx hn)
theorem selOne_sfx {S : SelsF} (H : ∀ ts l r, S ts = .ok (l, r) → Sfx r ts) {d : Nat} {ts r : List Tok} {x : SelT} (h : selOne S d ts = .ok (x, r)) : Sfx r ts := by
  unfold selOne at h
  split at h
  · rename_i ha
    exact (spread_sfx H h).trans (at_sfx ha)
  · exact field_sfx H h
theorem sels_all : ∀ f : Nat, (∀ d ts l r, selsR f d ts = .ok (l, r) → Sfx r ts) ∧ (∀ d ts x r, selR f d ts = .ok (x, r) → Sfx r ts) := by
  intro f
  induction f with
  | zero =>
    refine ⟨fun _ _ _ _ h => ?_, fun _ _ _ _ h => ?_⟩
    · rw [selsR] at h; cases h
    · rw [selR] at h; cases h
  | succ f ih =>
    obtain ⟨i1, i2⟩ := ih
    refine ⟨fun d ts l r h => ?_, fun d ts x r h => ?_⟩
    · rw [selsR] at h
      split at h
      · rename_i ha
        split at h
        · cases h
        · exact (ser_sfx (fun _ _ _ h => i2 _ _ _ _ h) _ _ _ _ _ h).trans (at_sfx ha)
      · cases h
    · rw [selR] at h
      exact selOne_sfx (fun ts l r h => i1 d ts l r h) h
theorem sels_sfx {d : Nat} {ts r : List Tok} {l : SelL} (h : selsD d ts = .ok (l, r)) : Sfx r ts := (sels_all _).1 _ _ _ _ h
theorem var_sfx {d : Nat} {ts r : List Tok} {x : VarT} (h : varR d ts = .ok (x, r)) : Sfx r ts := by
  unfold varR at h
  split at h
  · rename_i ha
    cases hn : nameR ts.tail with
    | none => rw [hn] at h; cases h
    | some q =>
      obtain ⟨n, r1⟩ := q
      rw [hn] at h
      simp only at h
      split at h
      · rename_i hc
        cases ht : typeR 4 r1.tail with
        | error x => rw [ht] at h; cases h
        | ok q =>
          obtain ⟨t, r2⟩ := q
          rw [ht] at h
          simp only at h
          have h0 := (((typ_sfx _ _ _ _ ht).trans (at_sfx hc)).trans (name_sfx hn)).trans (at_sfx ha)
          split at h
          · rename_i he
            cases hv : valD true d r2.tail with
            | error x => rw [hv] at h; cases h
            | ok q =>
              obtain ⟨v, r3⟩ := q
              rw [hv] at h
              have e := (Prod.mk.inj (Except.ok.inj h)).2
              subst e
              exact ((val_sfx hv).trans (at_sfx he)).trans h0
          · have e := (Prod.mk.inj (Except.ok.inj h)).2
            subst e
            exact h0
      · cases h
  · cases h
theorem vars_sfx {d : Nat} {ts r : List Tok} {l : List VarT} (h : varsR d ts = .ok (l, r)) : r <:+ ts := by
  unfold varsR at h
  split at h
  · rename_i ha
    exact ((ser_sfx (fun _ _ _ h => var_sfx h) _ _ _ _ _ h).trans (at_sfx ha)).1
  · have e := (Prod.mk.inj (Except.ok.inj h)).2
    subst e; exact List.suffix_refl _
theorem opRest_sfx {kind : Int} {d : Nat} {nm : ByteArray} {ts r : List Tok} {x : OpT} (h : opRest kind d nm ts = .ok (x, r)) : Sfx r ts := by
  unfold opRest at h
  cases hv : varsR d ts with
  | error x => rw [hv] at h; cases h
  | ok q =>
    obtain ⟨vs, r1⟩ := q
    rw [hv] at h
    simp only at h
    cases hd : dirsR true d r1 with
    | error x => rw [hd] at h; cases h
    | ok q =>
      obtain ⟨ds, r2⟩ := q
      rw [hd] at h
      simp only at h
      cases hs : selsD d r2 with
      | error x => rw [hs] at h; cases h
      | ok q =>
        obtain ⟨s, r3⟩ := q
        rw [hs] at h
        have e := (Prod.mk.inj (Except.ok.inj h)).2
        subst e
        exact (sels_sfx hs).le ((dirs_sfx hd).trans (vars_sfx hv))
theorem op_sfx {kind : Int} {d : Nat} {ts r : List Tok} {x : OpT} (h : opR kind d ts = .ok (x, r)) : Sfx r ts := by
  unfold opR at h
  cases hn : nameR ts with
  | none => rw [hn] at h; exact opRest_sfx h
  | some q =>
    obtain ⟨n, r1⟩ := q
    rw [hn] at h
    exact (opRest_sfx h).trans (name_sfx hn)
theorem frag_sfx {d : Nat} {ts r : List Tok} {x : FragT} (h : fragR d ts = .ok (x, r)) : Sfx r ts := by
  unfold fragR at h
  split at h
  · cases h
  · cases hn : nameR ts with
    | none => rw [hn] at h; cases h
    | some q =>
      obtain ⟨n, r1⟩ := q
      rw [hn] at h
      simp only at h
      split at h
      · rename_i ha
        cases hm : nameR r1.tail with
        | none => rw [hm] at h; cases h
        | some q =>
          obtain ⟨o, r2⟩ := q
          rw [hm] at h
          simp only at h
          cases hd : dirsR true d r2 with
          | error x => rw [hd] at h; cases h
          | ok q =>
            obtain ⟨ds, r3⟩ := q
            rw [hd] at h
            simp only at h
            cases hs : selsD d r3 with
            | error x => rw [hs] at h; cases h
            | ok q =>
              obtain ⟨s, r4⟩ := q
              rw [hs] at h
              have e := (Prod.mk.inj (Except.ok.inj h)).2
              subst e
              exact (sels_sfx hs).le ((dirs_sfx hd).trans ((name_sfx hm).1.trans ((at_sfx ha).1.trans (name_sfx hn).1)))
      · cases h
theorem def_sfx {D D' : DocT} {ts r : List Tok} (h : defR D ts = .ok (D', r)) : Sfx r ts := by
  unfold defR at h
  split at h
  · cases hs : selsD 0 ts with
    | error x => rw [hs] at h; cases h
    | ok q =>
      obtain ⟨s, r1⟩ := q
      rw [hs] at h
      have e := (Prod.mk.inj (Except.ok.inj h)).2
      subst e
      exact sels_sfx hs
  · split at h
    · rename_i ha
      cases hs : opR 0 0 ts.tail with
      | error x => rw [hs] at h; cases h
      | ok q =>
        obtain ⟨s, r1⟩ := q
        rw [hs] at h
        have e := (Prod.mk.inj (Except.ok.inj h)).2
        subst e
        exact (op_sfx hs).trans (at_sfx ha)
    · split at h
      · rename_i ha
        cases hs : opR 1 0 ts.tail with
        | error x => rw [hs] at h; cases h
        | ok q =>
          obtain ⟨s, r1⟩ := q
          rw [hs] at h
          have e := (Prod.mk.inj (Except.ok.inj h)).2
          subst e
          exact (op_sfx hs).trans (at_sfx ha)
      · split at h
        · rename_i ha
          cases hs : fragR 0 ts.tail with
          | error x => rw [hs] at h; cases h
          | ok q =>
            obtain ⟨s, r1⟩ := q
            rw [hs] at h
            have e := (Prod.mk.inj (Except.ok.inj h)).2
            subst e
            exact (frag_sfx hs).trans (at_sfx ha)
        · cases h
/-- The tokens are right as far as the readers ask. -/
def GoodD (ts : List Tok) : Prop := GoodT ts ∧ NamesT ts
theorem GoodD.sub {ts r : List Tok} (h : GoodD ts) (hs : r <:+ ts) : GoodD r := ⟨fun t ht => h.1 t (hs.subset ht), fun t ht => h.2 t (hs.subset ht)⟩
theorem GoodD.name {ts r : List Tok} {s : ByteArray} (h : GoodD ts) (hn : nameR ts = some (s, r)) : s.size ≤ 9000 := (h.1.name hn).1
end Go.Proofs.YtpkmbhnikilihaaGreatDoor
