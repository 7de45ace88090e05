/- The landed reader of values, as plain functions of tokens; what is asked of it. -/
import Derived.Test.YtaohniiemhahdaaGreatDoorQb8
import Derived.Test.YtaohniiemhahdaaGreatDoorQb10
import Derived.Test.YtaohniiemhahdaaGreatDoorQb11
namespace Go.Proofs.YtaohniiemhahdaaGreatDoor
open Go.RowKit

def omB : ByteArray := ⟨#[123]⟩
def cmB : ByteArray := ⟨#[125]⟩
def dolB : ByteArray := ⟨#[36]⟩
def colB : ByteArray := ⟨#[58]⟩
/-- A value that is one token. -/
def oneR : List Tok → Except Int (VT × List Tok)
  | [] => .error 2
  | t :: r =>
    match singleR t with
    | none => .error 2
    | some (k, n, s) => .ok (.mk k n s .nil .nil, r)
mutual
def valR : Nat → Bool → Nat → List Tok → Except Int (VT × List Tok)
  | 0, _, _, _ => .error 2
  | f + 1, fx, d, ts =>
    if atB 1 oB ts = true then
      if d = 16 then .error 4 else
        match itemsR f fx (d + 1) .nil ts.tail with
        | .error e => .error e
        | .ok (l, r) => .ok (.mk 6 0 ⟨#[]⟩ l .nil, r)
    else if atB 1 omB ts = true then
      if d = 16 then .error 4 else
        match memsR f fx (d + 1) .nil ts.tail with
        | .error e => .error e
        | .ok (m, r) => .ok (.mk 7 0 ⟨#[]⟩ .nil m, r)
    else if (!fx && atB 1 dolB ts) = true then
      match nameR ts.tail with
      | none => .error 2
      | some (s, r) => .ok (.mk 8 0 s .nil .nil, r)
    else oneR ts
def itemsR : Nat → Bool → Nat → VL → List Tok → Except Int (VL × List Tok)
  | 0, _, _, _, _ => .error 2
  | f + 1, fx, d, acc, ts =>
    if atB 1 cB ts = true then .ok (acc, ts.tail) else
      match valR f fx d ts with
      | .error e => .error e
      | .ok (v, r) => itemsR f fx d (acc.snoc v) r
def memsR : Nat → Bool → Nat → VM → List Tok → Except Int (VM × List Tok)
  | 0, _, _, _, _ => .error 2
  | f + 1, fx, d, acc, ts =>
    if atB 1 cmB ts = true then .ok (acc, ts.tail) else
      match memR f fx d ts with
      | .error e => .error e
      | .ok ((nm, v), r) => memsR f fx d (acc.snoc nm v) r
def memR : Nat → Bool → Nat → List Tok → Except Int ((ByteArray × VT) × List Tok)
  | 0, _, _, _ => .error 2
  | f + 1, fx, d, ts =>
    match nameR ts with
    | none => .error 2
    | some (nm, r) =>
      if atB 1 colB r = true then
        match valR f fx d r.tail with
        | .error e => .error e
        | .ok (v, r2) => .ok ((nm, v), r2)
      else .error 2
end
theorem at_len {k : Int} {s : ByteArray} {ts : List Tok} (h : atB k s ts = true) : ts.tail.length + 1 = ts.length := by
  cases ts with
  | nil => cases h
  | cons t ts => rfl
theorem name_len {ts r : List Tok} {s : ByteArray} (h : nameR ts = some (s, r)) : r.length + 1 = ts.length := by
  cases ts with
  | nil => cases h
  | cons t ts =>
    change (if t.1 = 2 then some (t.2, ts) else none) = some (s, r) at h
    split at h
    · have := (Prod.mk.inj (Option.some.inj h)).2
      subst this; rfl
    · cases h
/-- What is read is behind. -/
theorem read_less : ∀ f : Nat,
    (∀ fx d ts v r, valR f fx d ts = .ok (v, r) → r.length + 1 ≤ ts.length) ∧
    (∀ fx d acc ts l r, itemsR f fx d acc ts = .ok (l, r) → r.length + 1 ≤ ts.length) ∧
    (∀ fx d acc ts l r, memsR f fx d acc ts = .ok (l, r) → r.length + 1 ≤ ts.length) ∧
    (∀ fx d ts p r, memR f fx d ts = .ok (p, r) → r.length + 1 ≤ ts.length) := by
  intro f
  induction f with
  | zero =>
    refine ⟨fun _ _ _ _ _ h => ?_, fun _ _ _ _ _ _ h => ?_, fun _ _ _ _ _ _ h => ?_, fun _ _ _ _ _ h => ?_⟩
    · rw [valR] at h; cases h
    · rw [itemsR] at h; cases h
    · rw [memsR] at h; cases h
    · rw [memR] at h; cases h
  | succ f ih =>
    obtain ⟨iv, il, im, ib⟩ := ih
    refine ⟨fun fx d ts v r h => ?_, fun fx d acc ts l r h => ?_, fun fx d acc ts l r h => ?_, fun fx d ts p r h => ?_⟩
    · rw [valR] at h
      split at h
      · rename_i ha
        have := at_len ha
        split at h
        · cases h
        · cases hi : itemsR f fx (d + 1) .nil ts.tail with
          | error e => rw [hi] at h; cases h
          | ok q =>
            obtain ⟨l, r'⟩ := q
            rw [hi] at h
            have := il _ _ _ _ _ _ hi
            have e := (Prod.mk.inj (Except.ok.inj h)).2
            subst e; omega
      · split at h
        · rename_i ha
          have := at_len ha
          split at h
          · cases h
          · cases hi : memsR f fx (d + 1) .nil ts.tail with
            | error e => rw [hi] at h; cases h
            | ok q =>
              obtain ⟨l, r'⟩ := q
              rw [hi] at h
              have := im _ _ _ _ _ _ hi
              have e := (Prod.mk.inj (Except.ok.inj h)).2
              subst e; omega
        · split at h
          · rename_i ha
            have := at_len (show atB 1 dolB ts = true by cases fx <;> simp_all)
            cases hn : nameR ts.tail with
            | none => rw [hn] at h; cases h
            | some q =>
              obtain ⟨s, r'⟩ := q
              rw [hn] at h
              have := name_len hn
              have e := (Prod.mk.inj (Except.ok.inj h)).2
              subst e; omega
          · cases ts with
            | nil => cases h
            | cons t ts =>
              unfold oneR at h
              simp only at h
              cases hs : singleR t with
              | none => rw [hs] at h; cases h
              | some q =>
                rw [hs] at h
                have e := (Prod.mk.inj (Except.ok.inj h)).2
                subst e; exact Nat.le_refl _
    · rw [itemsR] at h
      split at h
      · rename_i ha
        have := at_len ha
        have e := (Prod.mk.inj (Except.ok.inj h)).2
        subst e; omega
      · cases hi : valR f fx d ts with
        | error e => rw [hi] at h; cases h
        | ok q =>
          obtain ⟨v, r'⟩ := q
          rw [hi] at h
          have h1 := iv _ _ _ _ _ hi
          have h2 := il _ _ _ _ _ _ h
          omega
    · rw [memsR] at h
      split at h
      · rename_i ha
        have := at_len ha
        have e := (Prod.mk.inj (Except.ok.inj h)).2
        subst e; omega
      · cases hi : memR f fx d ts with
        | error e => rw [hi] at h; cases h
        | ok q =>
          obtain ⟨⟨nm, v⟩, r'⟩ := q
          rw [hi] at h
          have h1 := ib _ _ _ _ _ hi
          have h2 := im _ _ _ _ _ _ h
          omega
    · rw [memR] at h
      cases hn : nameR ts with
      | none => rw [hn] at h; cases h
      | some q =>
        obtain ⟨nm, r'⟩ := q
        rw [hn] at h
        have h0 := name_len hn
        simp only at h
        split at h
        · rename_i ha
          have h1 := at_len ha
          cases hi : valR f fx d r'.tail with
          | error e => rw [hi] at h; cases h
          | ok q =>
            obtain ⟨v, r2⟩ := q
            rw [hi] at h
            have h2 := iv _ _ _ _ _ hi
            have e := (Prod.mk.inj (Except.ok.inj h)).2
            subst e; omega
        · cases h
/-- These tokens are right as far as a value asks. -/
def GoodT (ts : List Tok) : Prop := ∀ t ∈ ts, t.2.size ≤ 9000 ∧ (t.1 = 3 → kindL t.2.data.toList = 3)
theorem GoodT.tail {ts : List Tok} (h : GoodT ts) : GoodT ts.tail := fun t ht => h t (List.mem_of_mem_tail ht)
theorem GoodT.name {ts r : List Tok} {s : ByteArray} (h : GoodT ts) (hn : nameR ts = some (s, r)) : s.size ≤ 9000 ∧ GoodT r := by
  cases ts with
  | nil => cases hn
  | cons t ts =>
    change (if t.1 = 2 then some (t.2, ts) else none) = some (s, r) at hn
    split at hn
    · obtain ⟨e1, e2⟩ := Prod.mk.inj (Option.some.inj hn)
      subst e1 e2
      exact ⟨(h t (by simp)).1, fun u hu => h u (by simp [hu])⟩
    · cases hn
/-- The listed variables lie ahead of the reader, and stand. -/
def KRd (r : Nat) (w : World) : Prop := ∃ w0, Laid5 w0 ∧ w0.heap.size ≤ r ∧ Below w0.heap.size w0 w
theorem KRd.laid {r : Nat} {w : World} (h : KRd r w) : Laid5 w := by
  obtain ⟨w0, h0, _, hb⟩ := h
  exact h0.below hb
theorem KRd.moved {r : Nat} {w w' : World} (h : KRd r w) (m : Moved r w w') : KRd r w' := by
  obtain ⟨w0, h0, hl, hb⟩ := h
  exact ⟨w0, h0, hl, ⟨m.os.trans hb.os, m.tape.trans hb.tape, m.output.trans hb.output, Nat.le_trans hb.size m.size, fun k hk => (m.block k (Nat.lt_of_lt_of_le hk hb.size) (fun e => by injection e; omega)).trans (hb.block k hk)⟩⟩
def ValC (f : Nat) : Prop := ∀ (fx : Bool) (d : Nat) (ts : List Tok) (r : Nat) (w : World), 2 * ts.length + 1 ≤ f → GoodT ts → d ≤ 16 → Rd w r ts d → KRd r w →
  Calls Tryz.prog 35 #[.pointer (some ⟨r, 0, none⟩), .bool fx] w fun e w' => match valR f fx d ts with
    | .ok (v, ts') => (∃ d0 d1 d2 d3 d4, e = .returned (.agg #[d0, d1, d2, d3, d4]) ∧ VP w' (Fresh w w') v d0 d1 d2 d3 d4) ∧ Rd w' r ts' d ∧ GoodT ts' ∧ Moved r w w'
    | .error x => e = PanicE x ∧ Moved r w w'
def listR (f : Nat) (fx : Bool) (d : Nat) (ts : List Tok) : Except Int (VL × List Tok) := if d = 16 then .error 4 else itemsR f fx (d + 1) .nil ts.tail
def mapR (f : Nat) (fx : Bool) (d : Nat) (ts : List Tok) : Except Int (VM × List Tok) := if d = 16 then .error 4 else memsR f fx (d + 1) .nil ts.tail
def ListC (f : Nat) : Prop := ∀ (fx : Bool) (d : Nat) (ts : List Tok) (r : Nat) (w : World), 2 * ts.length ≤ f → GoodT ts → d ≤ 16 → atB 1 oB ts = true → Rd w r ts d → KRd r w →
  Calls Tryz.prog 84 #[.pointer (some ⟨r, 0, none⟩), .bool fx] w fun e w' => match listR f fx d ts with
    | .ok (l, ts') => (∃ d0 d1 d2 d3 d4, e = .returned (.agg #[d0, d1, d2, d3, d4]) ∧ VP w' (Fresh w w') (.mk 6 0 ⟨#[]⟩ l .nil) d0 d1 d2 d3 d4) ∧ Rd w' r ts' d ∧ GoodT ts' ∧ Moved r w w'
    | .error x => e = PanicE x ∧ Moved r w w'
def MemC (f : Nat) : Prop := ∀ (fx : Bool) (d : Nat) (ts : List Tok) (r : Nat) (w : World), 2 * ts.length + 1 ≤ f → GoodT ts → d ≤ 16 → Rd w r ts d → KRd r w →
  Calls Tryz.prog 145 #[.pointer (some ⟨r, 0, none⟩), .bool fx] w fun e w' => match memR f fx d ts with
    | .ok ((nm, v), ts') => (∃ d0 d1 d2 d3 d4, e = .returned (.agg #[.string nm, d0, d1, d2, d3, d4]) ∧ nm.size ≤ 9000 ∧ VP w' (Fresh w w') v d0 d1 d2 d3 d4) ∧ Rd w' r ts' d ∧ GoodT ts' ∧ Moved r w w'
    | .error x => e = PanicE x ∧ Moved r w w'
def MapC (f : Nat) : Prop := ∀ (fx : Bool) (d : Nat) (ts : List Tok) (r : Nat) (w : World), 2 * ts.length ≤ f → GoodT ts → d ≤ 16 → atB 1 omB ts = true → Rd w r ts d → KRd r w →
  Calls Tryz.prog 85 #[.pointer (some ⟨r, 0, none⟩), .bool fx] w fun e w' => match mapR f fx d ts with
    | .ok (l, ts') => (∃ d0 d1 d2 d3 d4, e = .returned (.agg #[d0, d1, d2, d3, d4]) ∧ VP w' (Fresh w w') (.mk 7 0 ⟨#[]⟩ .nil l) d0 d1 d2 d3 d4) ∧ Rd w' r ts' d ∧ GoodT ts' ∧ Moved r w w'
    | .error x => e = PanicE x ∧ Moved r w w'
theorem valR_list {f : Nat} {fx : Bool} {d : Nat} {ts : List Tok} (h : atB 1 oB ts = true) : valR (f + 1) fx d ts = (match listR f fx d ts with | .error e => .error e | .ok (l, r) => .ok (.mk 6 0 ⟨#[]⟩ l .nil, r)) := by
  rw [valR, if_pos h]
  unfold listR
  by_cases hd : d = 16
  · rw [if_pos hd, if_pos hd]
  · rw [if_neg hd, if_neg hd]
theorem valR_map {f : Nat} {fx : Bool} {d : Nat} {ts : List Tok} (h0 : atB 1 oB ts = false) (h : atB 1 omB ts = true) : valR (f + 1) fx d ts = (match mapR f fx d ts with | .error e => .error e | .ok (l, r) => .ok (.mk 7 0 ⟨#[]⟩ .nil l, r)) := by
  rw [valR, if_neg (by rw [h0]; simp), if_pos h]
  unfold mapR
  by_cases hd : d = 16
  · rw [if_pos hd, if_pos hd]
  · rw [if_neg hd, if_neg hd]
theorem valR_var {f : Nat} {fx : Bool} {d : Nat} {ts : List Tok} (h0 : atB 1 oB ts = false) (h1 : atB 1 omB ts = false) (h : (!fx && atB 1 dolB ts) = true) : valR (f + 1) fx d ts = (match nameR ts.tail with | none => .error 2 | some (s, r) => .ok (.mk 8 0 s .nil .nil, r)) := by
  rw [valR, if_neg (by rw [h0]; simp), if_neg (by rw [h1]; simp), if_pos h]
theorem valR_one {f : Nat} {fx : Bool} {d : Nat} {ts : List Tok} (h0 : atB 1 oB ts = false) (h1 : atB 1 omB ts = false) (h : (!fx && atB 1 dolB ts) = false) : valR (f + 1) fx d ts = oneR ts := by
  rw [valR, if_neg (by rw [h0]; simp), if_neg (by rw [h1]; simp), if_neg (by rw [h]; simp)]
/-- The cell of a result that is a value, ahead of a walk. -/
def ResV (w : World) (r : Nat) (W : World) : Prop := W.heap[w.heap.size]? = some (.cells #[.int .i64 0, .int .i64 0, .string ⟨#[]⟩, .slice none 0 0, .slice none 0 0] 35 (0, 0)) ∧ Moved r w W ∧ r < w.heap.size
theorem ResV.start {w : World} {r : Nat} (hr : r < w.heap.size) : ResV w r (w.alloc (.cells #[.int .i64 0, .int .i64 0, .string ⟨#[]⟩, .slice none 0 0, .slice none 0 0] 35)) := ⟨heap_alloc_new _ _, Moved.of_below ((Below.refl _ _).alloc (Nat.le_refl _) _), hr⟩
theorem ResV.next {w : World} {r : Nat} {W W' : World} (h : ResV w r W) (m : Moved r W W') : ResV w r W' := ⟨m.keep h.1 (by have := h.2.2; omega), h.2.1.trans m, h.2.2⟩
abbrev set5 (W : World) (b : Nat) (x0 x1 x2 x3 x4 : Value) : World := ((((W.setCell ⟨b, 0, none⟩ x0).setCell ⟨b, 1, none⟩ x1).setCell ⟨b, 2, none⟩ x2).setCell ⟨b, 3, none⟩ x3).setCell ⟨b, 4, none⟩ x4
theorem set5_size (W : World) (b : Nat) (x0 x1 x2 x3 x4 : Value) : (set5 W b x0 x1 x2 x3 x4).heap.size = W.heap.size := by simp [set5, World.setCell]
theorem set5_other (W : World) (b : Nat) (x0 x1 x2 x3 x4 : Value) {k : Nat} (h : k ≠ b) : (set5 W b x0 x1 x2 x3 x4).heap[k]? = W.heap[k]? := by
  unfold set5
  rw [Below.heap_setCell _ _ _ _ h, Below.heap_setCell _ _ _ _ h, Below.heap_setCell _ _ _ _ h, Below.heap_setCell _ _ _ _ h, Below.heap_setCell _ _ _ _ h]
theorem ResV.fin {w : World} {r : Nat} {W : World} (h : ResV w r W) (x0 x1 x2 x3 x4 : Value) : (set5 W w.heap.size x0 x1 x2 x3 x4).heap[w.heap.size]? = some (.cells #[x0, x1, x2, x3, x4] 35 (0, 0)) ∧ Moved r w (set5 W w.heap.size x0 x1 x2 x3 x4) :=
  ⟨five_set h.1, ((((h.2.1.put (Nat.le_refl _)).put (Nat.le_refl _)).put (Nat.le_refl _)).put (Nat.le_refl _)).put (Nat.le_refl _)⟩
theorem Rd.set5 {w : World} {r b : Nat} {x0 x1 x2 x3 x4 : Value} {ts : List Tok} {d : Nat} (h : Rd w r ts d) (hb : r < b) : Rd (set5 w b x0 x1 x2 x3 x4) r ts d := ((((h.set hb).set hb).set hb).set hb).set hb
/-- A value that a call has made, behind the stores of a result. -/
theorem vp_fin {w W0 W : World} {v : VT} {c0 c1 c2 c3 c4 x0 x1 x2 x3 x4 : Value} (h : VP W (Fresh W0 W) v c0 c1 c2 c3 c4) (h0 : w.heap.size + 1 ≤ W0.heap.size) : VP (set5 W w.heap.size x0 x1 x2 x3 x4) (Fresh w (set5 W w.heap.size x0 x1 x2 x3 x4)) v c0 c1 c2 c3 c4 :=
  VP.keep (fun b hb => by
    have h1 := hb.1
    have h2 := hb.2
    exact ⟨⟨by omega, by rw [set5_size]; exact h2⟩, set5_other _ _ _ _ _ _ _ (by omega)⟩) _ _ _ _ _ _ h
theorem flat_vp (w : World) (P : Nat → Prop) (k n : Int) (s : ByteArray) (hs : s.size ≤ 9000) : VP w P (.mk k n s .nil .nil) (.int .i64 k) (.int .i64 n) (.string s) (.slice none 0 0) (.slice none 0 0) := by
  unfold VP
  exact ⟨rfl, rfl, rfl, by omega, ⟨none, 0, rfl, Nat.zero_le _, by unfold LP; trivial⟩, none, 0, rfl, Nat.zero_le _, by unfold MP; trivial⟩
end Go.Proofs.YtaohniiemhahdaaGreatDoor
