/- The landed reader of values: wordValue, single. -/
import Derived.Test.YtpkmbhnikilihaaGreatDoorQj11
namespace Go.Proofs.YtpkmbhnikilihaaGreatDoor
open Go.RowKit

/-- A value without parts. -/
def flatV (k n : Int) (s : ByteArray) : Value := .agg #[.int .i64 k, .int .i64 n, .string s, .slice none 0 0, .slice none 0 0]
/-- The value that a word is: its kind, number and text. -/
def wordR (s : ByteArray) : Int × Int × ByteArray :=
  if s.data.toList = nullL then (0, 0, ⟨#[]⟩) else if s.data.toList = trueL then (1, 1, ⟨#[]⟩) else if s.data.toList = falseL then (1, 0, ⟨#[]⟩) else (5, 0, s)
/-- The value that a token is. -/
def singleR (t : Tok) : Option (Int × Int × ByteArray) :=
  if t.1 = 2 then some (wordR t.2)
  else if t.1 = 3 then (if fits64 (intN t.2.data.toList) = true then some (2, intN t.2.data.toList, ⟨#[]⟩) else some (3, 0, t.2))
  else if t.1 = 4 then some (3, 0, t.2) else if t.1 = 5 then some (4, 0, t.2) else none
theorem eq_list {s : ByteArray} {l : List UInt8} {b : Bool} (h : (s.toList == l) = b) : (s.data.toList = l) ↔ b = true := by
  rw [Lib.toList_data] at h
  rw [← h]; simp
set_option maxRecDepth 100000 in
theorem wordV_any (s : ByteArray) (w : World) : Calls Tryz.prog 188 #[.string s] w fun e w' => e = .returned (flatV (wordR s).1 (wordR s).2.1 (wordR s).2.2) ∧ Below w.heap.size w w' := by
  obtain ⟨b1, h1⟩ : ∃ b, (s.toList == [110, 117, 108, 108]) = b := ⟨_, rfl⟩
  obtain ⟨b2, h2⟩ : ∃ b, (s.toList == [116, 114, 117, 101]) = b := ⟨_, rfl⟩
  obtain ⟨b3, h3⟩ : ∃ b, (s.toList == [102, 97, 108, 115, 101]) = b := ⟨_, rfl⟩
  have hw : wordR s = if b1 = true then (0, 0, ⟨#[]⟩) else if b2 = true then (1, 1, ⟨#[]⟩) else if b3 = true then (1, 0, ⟨#[]⟩) else (5, 0, s) := by
    unfold wordR
    simp only [show (s.data.toList = nullL) = (b1 = true) from propext (eq_list h1), show (s.data.toList = trueL) = (b2 = true) from propext (eq_list h2), show (s.data.toList = falseL) = (b3 = true) from propext (eq_list h3)]
  rw [hw]
  clear hw
  cases b1 with
  | true =>
    go_enter Tryz.func188, Tryz.ntmps188
    go_wp2_with fail
    exact ret_v1 rfl rfl rfl (heap_alloc_last _ _) ⟨rfl, (Below.refl _ _).alloc (Nat.le_refl _) _⟩
  | false =>
  cases b2 with
  | true =>
    go_enter Tryz.func188, Tryz.ntmps188
    go_wp2_with fail
    exact ret_v1 rfl rfl rfl (heap_alloc_last _ _) ⟨rfl, (Below.refl _ _).alloc (Nat.le_refl _) _⟩
  | false =>
  cases b3 with
  | true =>
    go_enter Tryz.func188, Tryz.ntmps188
    go_wp2_with fail
    exact ret_v1 rfl rfl rfl (heap_alloc_last _ _) ⟨rfl, (Below.refl _ _).alloc (Nat.le_refl _) _⟩
  | false =>
    go_enter Tryz.func188, Tryz.ntmps188
    go_wp2_with fail
    exact ret_v1 rfl rfl rfl (heap_alloc_last _ _) ⟨rfl, (Below.refl _ _).alloc (Nat.le_refl _) _⟩
/-- The box of a token, and the cell of a result, ahead of a walk. -/
theorem tok_box (w : World) (a b : Value) (o : Obj) : ((w.alloc (.cells #[a, b] 70)).alloc o).heap[w.heap.size]? = some (.cells #[a, b] 70 (0, 0)) ∧ ((w.alloc (.cells #[a, b] 70)).alloc o).heap[w.heap.size + 1]? = some o ∧ Below w.heap.size w ((w.alloc (.cells #[a, b] 70)).alloc o) := by
  refine ⟨(Below.heap_alloc _ _ _ (by simp)).trans (heap_alloc_new _ _), ?_, ((Below.refl _ _).alloc (Nat.le_refl _) _).alloc (by simp) _⟩
  have h2 := heap_alloc_new (w.alloc (.cells #[a, b] 70)) o
  have e : (w.alloc (.cells #[a, b] 70)).heap.size = w.heap.size + 1 := by simp
  rwa [e] at h2
theorem five_low {w w2 : World} {b : Nat} (h : Below w.heap.size w w2) (hb : w.heap.size ≤ b) (x0 x1 x2 x3 x4 : Value) : Below w.heap.size w (((((w2.setCell ⟨b, 0, none⟩ x0).setCell ⟨b, 1, none⟩ x1).setCell ⟨b, 2, none⟩ x2).setCell ⟨b, 3, none⟩ x3).setCell ⟨b, 4, none⟩ x4) :=
  ((((h.setCell hb _).setCell hb _).setCell hb _).setCell hb _).setCell hb _
set_option maxRecDepth 100000 in
set_option maxHeartbeats 4000000 in
theorem single_any (t : Tok) (w : World) (hs : t.2.size ≤ 9000) (hk : t.1 = 3 → kindL t.2.data.toList = 3) (hw : Laid5 w) : Calls Tryz.prog 118 #[.agg #[.int .i64 t.1, .string t.2]] w fun e w' => match singleR t with
    | some (k, n, s) => e = .returned (flatV k n s) ∧ Below w.heap.size w w'
    | none => e = PanicE 2 ∧ Below w.heap.size w w' := by
  obtain ⟨tk, s⟩ := t
  simp only at hs hk ⊢
  obtain ⟨y0, y1, yb⟩ := tok_box w (.int .i64 tk) (.string s) (.cells #[.int .i64 0, .int .i64 0, .string ⟨#[]⟩, .slice none 0 0, .slice none 0 0] 35)
  have Y := Lib.hid (And.intro y0 (And.intro y1 yb))
  have hsz : Hid (((w.alloc (.cells #[.int .i64 tk, .string s] 70)).alloc (.cells #[.int .i64 0, .int .i64 0, .string ⟨#[]⟩, .slice none 0 0, .slice none 0 0] 35)).heap.size = w.heap.size + 2) := Lib.hid (by simp)
  clear y0 y1 yb
  by_cases h2 : tk = 2
  · subst h2
    have hr : singleR (2, s) = some (wordR s) := by unfold singleR; rw [if_pos rfl]
    rw [hr]
    have HW := fun wx => Lib.hid (wordV_any s wx)
    obtain ⟨⟨k, n, x⟩, hx⟩ : ∃ p, wordR s = p := ⟨_, rfl⟩
    rw [hx] at HW ⊢
    show Calls _ _ _ _ fun e w' => e = .returned (flatV k n x) ∧ Below w.heap.size w w'
    unfold flatV at HW ⊢
    clear hr hx hk
    go_enter Tryz.func118, Tryz.ntmps118
    go_wp2_with fail
    refine (HW _).out.mono ?_
    rintro e w2 ⟨rfl, hb⟩
    have z1 := (hb.block (w.heap.size + 1) (by have := hsz.out; omega)).trans Y.out.2.1
    have Z := Lib.hid (And.intro z1 (Y.out.2.2.trans (hb.mono (by have := hsz.out; omega))))
    obtain ⟨g0, g1, g2, g3, g4, gz⟩ := gfive_cells z1
    have z0' := gz 0
    have z1' := gz 1
    have z2' := gz 2
    have z3' := gz 3
    have z4' := gz 4
    clear hb z1 HW gz
    go_wp2_with fail
    exact ret_v1 rfl rfl rfl (five_set Z.out.1) ⟨rfl, five_low Z.out.2 (Nat.le_succ _) _ _ _ _ _⟩
  · have e2 : (tk == 2) = false := by simpa using h2
    by_cases h3 : tk = 3
    · subst h3
      have hk3 := hk rfl
      cases hf : fits64 (intN s.data.toList) with
      | true =>
        have hr : singleR (3, s) = some (2, intN s.data.toList, ⟨#[]⟩) := by unfold singleR; rw [if_neg (by simp), if_pos rfl, if_pos hf]
        rw [hr]
        have HP := fun wx => Lib.hid (parseInt_yes s (by omega) hk3 hf wx)
        generalize intN s.data.toList = z at *
        have HI := fun wx => Lib.hid (pint_any z wx)
        show Calls _ _ _ _ fun e w' => e = .returned (flatV 2 z ⟨#[]⟩) ∧ Below w.heap.size w w'
        unfold flatV
        clear hr hk hk3 hf h2
        obtain ⟨q0, q1, _, _⟩ := two_box Y.out.1
        go_enter Tryz.func118, Tryz.ntmps118
        go_wp2_with fail
        refine (HP _).out.mono ?_
        rintro e w2 ⟨rfl, hb⟩
        clear q0 q1
        have z0 := (hb.block w.heap.size (by have := hsz.out; omega)).trans Y.out.1
        have z1 := (hb.block (w.heap.size + 1) (by have := hsz.out; omega)).trans Y.out.2.1
        have Z := Lib.hid (And.intro z1 (Y.out.2.2.trans (hb.mono (by have := hsz.out; omega))))
        have hlt2 : w.heap.size + 2 ≤ w2.heap.size := by have := hb.size; have := hsz.out; omega
        obtain ⟨q0, q1, _, _⟩ := two_box z0
        obtain ⟨g0, g1, g2, g3, g4, gz⟩ := gfive_cells z1
        have z0' := gz 0
        have z1' := gz 1
        have z2' := gz 2
        have z3' := gz 3
        have z4' := gz 4
        clear hb z0 z1 gz
        go_wp2_with fail
        refine (HI _).out.mono ?_
        rintro e w3 ⟨rfl, hb3⟩
        have z1 := (hb3.block (w.heap.size + 1) (by omega)).trans Z.out.1
        have Z3 := Lib.hid (And.intro z1 (Z.out.2.trans (hb3.mono (by omega))))
        clear q0 q1 g0 g1 g2 g3 g4 z0' z1' z2' z3' z4'
        obtain ⟨g0, g1, g2, g3, g4, gz⟩ := gfive_cells z1
        have z0' := gz 0
        have z1' := gz 1
        have z2' := gz 2
        have z3' := gz 3
        have z4' := gz 4
        clear hb3 z1 gz
        go_wp2_with fail
        exact ret_v1 rfl rfl rfl (five_set Z3.out.1) ⟨rfl, five_low Z3.out.2 (Nat.le_succ _) _ _ _ _ _⟩
      | false =>
        have hr : singleR (3, s) = some (3, 0, s) := by unfold singleR; rw [if_neg (by simp), if_pos rfl, if_neg (by rw [hf]; simp)]
        rw [hr]
        have HP := fun wx (hx : Laid5 wx) => Lib.hid (parseInt_no s (by omega) hk3 hf wx hx)
        have HW := Lib.hid (hw.below Y.out.2.2)
        show Calls _ _ _ _ fun e w' => e = .returned (flatV 3 0 s) ∧ Below w.heap.size w w'
        unfold flatV
        clear hr hk hk3 hf h2
        obtain ⟨q0, q1, _, _⟩ := two_box Y.out.1
        go_enter Tryz.func118, Tryz.ntmps118
        go_wp2_with fail
        refine (HP _ HW.out).out.mono ?_
        rintro e w2 ⟨⟨z, N, rfl⟩, hb⟩
        clear q0 q1
        have z0 := (hb.block w.heap.size (by have := hsz.out; omega)).trans Y.out.1
        have z1 := (hb.block (w.heap.size + 1) (by have := hsz.out; omega)).trans Y.out.2.1
        have Z := Lib.hid (And.intro z1 (Y.out.2.2.trans (hb.mono (by have := hsz.out; omega))))
        have hlt2 : w.heap.size + 2 ≤ w2.heap.size := by have := hb.size; have := hsz.out; omega
        obtain ⟨q0, q1, _, _⟩ := two_box z0
        obtain ⟨g0, g1, g2, g3, g4, gz⟩ := gfive_cells z1
        have z0' := gz 0
        have z1' := gz 1
        have z2' := gz 2
        have z3' := gz 3
        have z4' := gz 4
        clear hb z0 z1 gz
        go_wp2_with fail
        exact ret_v1 rfl rfl rfl (five_set Z.out.1) ⟨rfl, five_low Z.out.2 (Nat.le_succ _) _ _ _ _ _⟩
    · have e3 : (tk == 3) = false := by simpa using h3
      by_cases h4 : tk = 4
      · subst h4
        have hr : singleR (4, s) = some (3, 0, s) := by unfold singleR; rw [if_neg (by simp), if_neg (by simp), if_pos rfl]
        rw [hr]
        show Calls _ _ _ _ fun e w' => e = .returned (flatV 3 0 s) ∧ Below w.heap.size w w'
        unfold flatV
        clear hr hk h2 h3
        go_enter Tryz.func118, Tryz.ntmps118
        go_wp2_with fail
        exact ret_v1 rfl rfl rfl (tok_box w _ _ _).2.1 ⟨rfl, (tok_box w _ _ _).2.2⟩
      · have e4 : (tk == 4) = false := by simpa using h4
        by_cases h5 : tk = 5
        · subst h5
          have hr : singleR (5, s) = some (4, 0, s) := by unfold singleR; rw [if_neg (by simp), if_neg (by simp), if_neg (by simp), if_pos rfl]
          rw [hr]
          have HI := fun wx => Lib.hid (ptext_any s wx)
          show Calls _ _ _ _ fun e w' => e = .returned (flatV 4 0 s) ∧ Below w.heap.size w w'
          unfold flatV
          clear hr hk h2 h3 h4
          go_enter Tryz.func118, Tryz.ntmps118
          go_wp2_with fail
          refine (HI _).out.mono ?_
          rintro e w2 ⟨rfl, hb⟩
          have z0 := (hb.block w.heap.size (by have := hsz.out; omega)).trans Y.out.1
          have z1 := (hb.block (w.heap.size + 1) (by have := hsz.out; omega)).trans Y.out.2.1
          have Z := Lib.hid (And.intro z1 (Y.out.2.2.trans (hb.mono (by have := hsz.out; omega))))
          have hlt2 : w.heap.size + 2 ≤ w2.heap.size := by have := hb.size; have := hsz.out; omega
          obtain ⟨q0, q1, _, _⟩ := two_box z0
          obtain ⟨g0, g1, g2, g3, g4, gz⟩ := gfive_cells z1
          have z0' := gz 0
          have z1' := gz 1
          have z2' := gz 2
          have z3' := gz 3
          have z4' := gz 4
          clear hb z0 z1 gz
          go_wp2_with fail
          exact ret_v1 rfl rfl rfl (five_set Z.out.1) ⟨rfl, five_low Z.out.2 (Nat.le_succ _) _ _ _ _ _⟩
        · have e5 : (tk == 5) = false := by simpa using h5
          have hr : singleR (tk, s) = none := by unfold singleR; rw [if_neg h2, if_neg h3, if_neg h4, if_neg h5]
          rw [hr]
          show Calls _ _ _ _ fun e w' => e = PanicE 2 ∧ Below w.heap.size w w'
          clear hr hk h2 h3 h4 h5
          go_enter Tryz.func118, Tryz.ntmps118
          go_wp2_with fail
          exact ⟨rfl, rfl, Y.out.2.2⟩
end Go.Proofs.YtpkmbhnikilihaaGreatDoor
/- The walk of seinekeep.Value: a copy of a value, from that of its parts. -/
namespace Go.Proofs.YtpkmbhnikilihaaGreatDoor
open Go.RowKit

/-- The box and the result's block. -/
def KQ (w : World) (c0 c1 c2 c3 c4 : Value) (W : World) : Prop := W.heap[w.heap.size]? = some (.cells #[c0, c1, c2, c3, c4] 35 (0, 0)) ∧ W.heap[w.heap.size + 1]? = some (.cells #[.int .i64 0, .int .i64 0, .string ⟨#[]⟩, .slice none 0 0, .slice none 0 0] 35 (0, 0)) ∧ Below w.heap.size w W ∧ w.heap.size + 2 ≤ W.heap.size
theorem KQ.start (w : World) (c0 c1 c2 c3 c4 : Value) : KQ w c0 c1 c2 c3 c4 ((w.alloc (.cells #[c0, c1, c2, c3, c4] 35)).alloc (.cells #[.int .i64 0, .int .i64 0, .string ⟨#[]⟩, .slice none 0 0, .slice none 0 0] 35)) := by
  refine ⟨?_, heap_alloc2_new _ _ _, ((Below.refl _ _).alloc (Nat.le_refl _) _).alloc (by simp) _, by simp⟩
  rw [Below.heap_alloc _ _ _ (by simp)]
  exact heap_alloc_new _ _
theorem KQ.grown {w W W' : World} {c0 c1 c2 c3 c4 : Value} (h : KQ w c0 c1 c2 c3 c4 W) (hb : ∀ b, b < w.heap.size + 2 → W'.heap[b]? = W.heap[b]?) (hw : Below w.heap.size w W') (hs : W.heap.size ≤ W'.heap.size) : KQ w c0 c1 c2 c3 c4 W' :=
  ⟨(hb _ (by omega)).trans h.1, (hb _ (by omega)).trans h.2.1, hw, Nat.le_trans h.2.2.2 hs⟩
theorem KQ.next {w W W' : World} {c0 c1 c2 c3 c4 : Value} (h : KQ w c0 c1 c2 c3 c4 W) (hb : Below W.heap.size W W') : KQ w c0 c1 c2 c3 c4 W' :=
  h.grown (fun b hl => hb.block b (Nat.lt_of_lt_of_le hl h.2.2.2)) (h.2.2.1.trans (hb.mono h.2.2.1.size)) hb.size
end Go.Proofs.YtpkmbhnikilihaaGreatDoor
/- The landed reader of values, as plain functions of tokens; what is asked of it. -/
namespace Go.Proofs.YtpkmbhnikilihaaGreatDoor
open Go.RowKit

def omB : ByteArray := ⟨#[123]⟩
def cmB : ByteArray := ⟨#[125]⟩
def dolB : ByteArray := ⟨#[36]⟩
def colB : ByteArray := ⟨#[58]⟩
/-- A value that is one token. -/
def oneR : List Tok → Except Int (VT × List Tok)
  | [] => .error 2
  | t :: r =>
    match singleR t with
    | none => .error 2
    | some (k, n, s) => .ok (.mk k n s .nil .nil, r)
mutual
def valR : Nat → Bool → Nat → List Tok → Except Int (VT × List Tok)
  | 0, _, _, _ => .error 2
  | f + 1, fx, d, ts =>
    if atB 1 oB ts = true then
      if d = 16 then .error 4 else
        match itemsR f fx (d + 1) .nil ts.tail with
        | .error e => .error e
        | .ok (l, r) => .ok (.mk 6 0 ⟨#[]⟩ l .nil, r)
    else if atB 1 omB ts = true then
      if d = 16 then .error 4 else
        match memsR f fx (d + 1) .nil ts.tail with
        | .error e => .error e
        | .ok (m, r) => .ok (.mk 7 0 ⟨#[]⟩ .nil m, r)
    else if (!fx && atB 1 dolB ts) = true then
      match nameR ts.tail with
      | none => .error 2
      | some (s, r) => .ok (.mk 8 0 s .nil .nil, r)
    else oneR ts
def itemsR : Nat → Bool → Nat → VL → List Tok → Except Int (VL × List Tok)
  | 0, _, _, _, _ => .error 2
  | f + 1, fx, d, acc, ts =>
    if atB 1 cB ts = true then .ok (acc, ts.tail) else
      match valR f fx d ts with
      | .error e => .error e
      | .ok (v, r) => itemsR f fx d (acc.snoc v) r
def memsR : Nat → Bool → Nat → VM → List Tok → Except Int (VM × List Tok)
  | 0, _, _, _, _ => .error 2
  | f + 1, fx, d, acc, ts =>
    if atB 1 cmB ts = true then .ok (acc, ts.tail) else
      match memR f fx d ts with
      | .error e => .error e
      | .ok ((nm, v), r) => memsR f fx d (acc.snoc nm v) r
def memR : Nat → Bool → Nat → List Tok → Except Int ((ByteArray × VT) × List Tok)
  | 0, _, _, _ => .error 2
  | f + 1, fx, d, ts =>
    match nameR ts with
    | none => .error 2
    | some (nm, r) =>
      if atB 1 colB r = true then
        match valR f fx d r.tail with
        | .error e => .error e
        | .ok (v, r2) => .ok ((nm, v), r2)
      else .error 2
end
theorem at_len {k : Int} {s : ByteArray} {ts : List Tok} (h : atB k s ts = true) : ts.tail.length + 1 = ts.length := by
  cases ts with
  | nil => cases h
  | cons t ts => rfl
theorem name_len {ts r : List Tok} {s : ByteArray} (h : nameR ts = some (s, r)) : r.length + 1 = ts.length := by
  cases ts with
  | nil => cases h
  | cons t ts =>
    change (if t.1 = 2 then some (t.2, ts) else none) = some (s, r) at h
    split at h
    · have := (Prod.mk.inj (Option.some.inj h)).2
      subst this; rfl
    · cases h
/-- What is read is behind. -/
theorem read_less : ∀ f : Nat,
    (∀ fx d ts v r, valR f fx d ts = .ok (v, r) → r.length + 1 ≤ ts.length) ∧
    (∀ fx d acc ts l r, itemsR f fx d acc ts = .ok (l, r) → r.length + 1 ≤ ts.length) ∧
    (∀ fx d acc ts l r, memsR f fx d acc ts = .ok (l, r) → r.length + 1 ≤ ts.length) ∧
    (∀ fx d ts p r, memR f fx d ts = .ok (p, r) → r.length + 1 ≤ ts.length) := by
  intro f
  induction f with
  | zero =>
    refine ⟨fun _ _ _ _ _ h => ?_, fun _ _ _ _ _ _ h => ?_, fun _ _ _ _ _ _ h => ?_, fun _ _ _ _ _ h => ?_⟩
    · rw [valR] at h; cases h
    · rw [itemsR] at h; cases h
    · rw [memsR] at h; cases h
    · rw [memR] at h; cases h
  | succ f ih =>
    obtain ⟨iv, il, im, ib⟩ := ih
    refine ⟨fun fx d ts v r h => ?_, fun fx d acc ts l r h => ?_, fun fx d acc ts l r h => ?_, fun fx d ts p r h => ?_⟩
    · rw [valR] at h
      split at h
      · rename_i ha
        have := at_len ha
        split at h
        · cases h
        · cases hi : itemsR f fx (d + 1) .nil ts.tail with
          | error e => rw [hi] at h; cases h
          | ok q =>
            obtain ⟨l, r'⟩ := q
            rw [hi] at h
            have := il _ _ _ _ _ _ hi
            have e := (Prod.mk.inj (Except.ok.inj h)).2
            subst e; omega
      · split at h
        · rename_i ha
          have := at_len ha
          split at h
          · cases h
          · cases hi : memsR f fx (d + 1) .nil ts.tail with
            | error e => rw [hi] at h; cases h
            | ok q =>
              obtain ⟨l, r'⟩ := q
              rw [hi] at h
              have := im _ _ _ _ _ _ hi
              have e := (Prod.mk.inj (Except.ok.inj h)).2
              subst e; omega
        · split at h
          · rename_i ha
            have := at_len (show atB 1 dolB ts = true by cases fx <;> simp_all)
            cases hn : nameR ts.tail with
            | none => rw [hn] at h; cases h
            | some q =>
              obtain ⟨s, r'⟩ := q
              rw [hn] at h
              have := name_len hn
              have e := (Prod.mk.inj (Except.ok.inj h)).2
              subst e; omega
          · cases ts with
            | nil => cases h
            | cons t ts =>
              unfold oneR at h
              simp only at h
              cases hs : singleR t with
              | none => rw [hs] at h; cases h
              | some q =>
                rw [hs] at h
                have e := (Prod.mk.inj (Except.ok.inj h)).2
                subst e; exact Nat.le_refl _
    · rw [itemsR] at h
      split at h
      · rename_i ha
        have := at_len ha
        have e := (Prod.mk.inj (Except.ok.inj h)).2
        subst e; omega
      · cases hi : valR f fx d ts with
        | error e => rw [hi] at h; cases h
        | ok q =>
          obtain ⟨v, r'⟩ := q
          rw [hi] at h
          have h1 := iv _ _ _ _ _ hi
          have h2 := il _ _ _ _ _ _ h
          omega
    · rw [memsR] at h
      split at h
      · rename_i ha
        have := at_len ha
        have e := (Prod.mk.inj (Except.ok.inj h)).2
        subst e; omega
      · cases hi : memR f fx d ts with
        | error e => rw [hi] at h; cases h
        | ok q =>
          obtain ⟨⟨nm, v⟩, r'⟩ := q
          rw [hi] at h
          have h1 := ib _ _ _ _ _ hi
          have h2 := im _ _ _ _ _ _ h
          omega
    · rw [memR] at h
      cases hn : nameR ts with
      | none => rw [hn] at h; cases h
      | some q =>
        obtain ⟨nm, r'⟩ := q
        rw [hn] at h
        have h0 := name_len hn
        simp only at h
        split at h
        · rename_i ha
          have h1 := at_len ha
          cases hi : valR f fx d r'.tail with
          | error e => rw [hi] at h; cases h
          | ok q =>
            obtain ⟨v, r2⟩ := q
            rw [hi] at h
            have h2 := iv _ _ _ _ _ hi
            have e := (Prod.mk.inj (Except.ok.inj h)).2
            subst e; omega
        · cases h
/-- These tokens are right as far as a value asks. -/
def GoodT (ts : List Tok) : Prop := ∀ t ∈ ts, t.2.size ≤ 9000 ∧ (t.1 = 3 → kindL t.2.data.toList = 3)
theorem GoodT.tail {ts : List Tok} (h : GoodT ts) : GoodT ts.tail := fun t ht => h t (List.mem_of_mem_tail ht)
theorem GoodT.name {ts r : List Tok} {s : ByteArray} (h : GoodT ts) (hn : nameR ts = some (s, r)) : s.size ≤ 9000 ∧ GoodT r := by
  cases ts with
  | nil => cases hn
  | cons t ts =>
    change (if t.1 = 2 then some (t.2, ts) else none) = some (s, r) at hn
    split at hn
    · obtain ⟨e1, e2⟩ := Prod.mk.inj (Option.some.inj hn)
      subst e1 e2
      exact ⟨(h t (by simp)).1, fun u hu => h u (by simp [hu])⟩
    · cases hn
/-- The listed variables lie ahead of the reader, and stand. -/
def KRd (r : Nat) (w : World) : Prop := ∃ w0, Laid5 w0 ∧ w0.heap.size ≤ r ∧ Below w0.heap.size w0 w
theorem KRd.laid {r : Nat} {w : World} (h : KRd r w) : Laid5 w := by
  obtain ⟨w0, h0, _, hb⟩ := h
  exact h0.below hb
theorem KRd.moved {r : Nat} {w w' : World} (h : KRd r w) (m : Moved r w w') : KRd r w' := by
  obtain ⟨w0, h0, hl, hb⟩ := h
  exact ⟨w0, h0, hl, ⟨m.os.trans hb.os, m.tape.trans hb.tape, m.output.trans hb.output, Nat.le_trans hb.size m.size, fun k hk => (m.block k (Nat.lt_of_lt_of_le hk hb.size) (fun e => by injection e; omega)).trans (hb.block k hk)⟩⟩
def ValC (f : Nat) : Prop := ∀ (fx : Bool) (d : Nat) (ts : List Tok) (r : Nat) (w : World), 2 * ts.length + 1 ≤ f → GoodT ts → d ≤ 16 → Rd w r ts d → KRd r w →
  Calls Tryz.prog 49 #[.pointer (some ⟨r, 0, none⟩), .bool fx] w fun e w' => match valR f fx d ts with
    | .ok (v, ts') => (∃ d0 d1 d2 d3 d4, e = .returned (.agg #[d0, d1, d2, d3, d4]) ∧ VP w' (Fresh w w') v d0 d1 d2 d3 d4) ∧ Rd w' r ts' d ∧ GoodT ts' ∧ Moved r w w'
    | .error x => e = PanicE x ∧ Moved r w w'
def listR (f : Nat) (fx : Bool) (d : Nat) (ts : List Tok) : Except Int (VL × List Tok) := if d = 16 then .error 4 else itemsR f fx (d + 1) .nil ts.tail
def mapR (f : Nat) (fx : Bool) (d : Nat) (ts : List Tok) : Except Int (VM × List Tok) := if d = 16 then .error 4 else memsR f fx (d + 1) .nil ts.tail
def ListC (f : Nat) : Prop := ∀ (fx : Bool) (d : Nat) (ts : List Tok) (r : Nat) (w : World), 2 * ts.length ≤ f → GoodT ts → d ≤ 16 → atB 1 oB ts = true → Rd w r ts d → KRd r w →
  Calls Tryz.prog 115 #[.pointer (some ⟨r, 0, none⟩), .bool fx] w fun e w' => match listR f fx d ts with
    | .ok (l, ts') => (∃ d0 d1 d2 d3 d4, e = .returned (.agg #[d0, d1, d2, d3, d4]) ∧ VP w' (Fresh w w') (.mk 6 0 ⟨#[]⟩ l .nil) d0 d1 d2 d3 d4) ∧ Rd w' r ts' d ∧ GoodT ts' ∧ Moved r w w'
    | .error x => e = PanicE x ∧ Moved r w w'
def MemC (f : Nat) : Prop := ∀ (fx : Bool) (d : Nat) (ts : List Tok) (r : Nat) (w : World), 2 * ts.length + 1 ≤ f → GoodT ts → d ≤ 16 → Rd w r ts d → KRd r w →
  Calls Tryz.prog 187 #[.pointer (some ⟨r, 0, none⟩), .bool fx] w fun e w' => match memR f fx d ts with
    | .ok ((nm, v), ts') => (∃ d0 d1 d2 d3 d4, e = .returned (.agg #[.string nm, d0, d1, d2, d3, d4]) ∧ nm.size ≤ 9000 ∧ VP w' (Fresh w w') v d0 d1 d2 d3 d4) ∧ Rd w' r ts' d ∧ GoodT ts' ∧ Moved r w w'
    | .error x => e = PanicE x ∧ Moved r w w'
def MapC (f : Nat) : Prop := ∀ (fx : Bool) (d : Nat) (ts : List Tok) (r : Nat) (w : World), 2 * ts.length ≤ f → GoodT ts → d ≤ 16 → atB 1 omB ts = true → Rd w r ts d → KRd r w →
  Calls Tryz.prog 116 #[.pointer (some ⟨r, 0, none⟩), .bool fx] w fun e w' => match mapR f fx d ts with
    | .ok (l, ts') => (∃ d0 d1 d2 d3 d4, e = .returned (.agg #[d0, d1, d2, d3, d4]) ∧ VP w' (Fresh w w') (.mk 7 0 ⟨#[]⟩ .nil l) d0 d1 d2 d3 d4) ∧ Rd w' r ts' d ∧ GoodT ts' ∧ Moved r w w'
    | .error x => e = PanicE x ∧ Moved r w w'
theorem valR_list {f : Nat} {fx : Bool} {d : Nat} {ts : List Tok} (h : atB 1 oB ts = true) : valR (f + 1) fx d ts = (match listR f fx d ts with | .error e => .error e | .ok (l, r) => .ok (.mk 6 0 ⟨#[]⟩ l .nil, r)) := by
  rw [valR, if_pos h]
  unfold listR
  by_cases hd : d = 16
  · rw [if_pos hd, if_pos hd]
  · rw [if_neg hd, if_neg hd]
theorem valR_map {f : Nat} {fx : Bool} {d : Nat} {ts : List Tok} (h0 : atB 1 oB ts = false) (h : atB 1 omB ts = true) : valR (f + 1) fx d ts = (match mapR f fx d ts with | .error e => .error e | .ok (l, r) => .ok (.mk 7 0 ⟨#[]⟩ .nil l, r)) := by
  rw [valR, if_neg (by rw [h0]; simp), if_pos h]
  unfold mapR
  by_cases hd : d = 16
  · rw [if_pos hd, if_pos hd]
  · rw [if_neg hd, if_neg hd]
theorem valR_var {f : Nat} {fx : Bool} {d : Nat} {ts : List Tok} (h0 : atB 1 oB ts = false) (h1 : atB 1 omB ts = false) (h : (!fx && atB 1 dolB ts) = true) : valR (f + 1) fx d ts = (match nameR ts.tail with | none => .error 2 | some (s, r) => .ok (.mk 8 0 s .nil .nil, r)) := by
  rw [valR, if_neg (by rw [h0]; simp), if_neg (by rw [h1]; simp), if_pos h]
theorem valR_one {f : Nat} {fx : Bool} {d : Nat} {ts : List Tok} (h0 : atB 1 oB ts = false) (h1 : atB 1 omB ts = false) (h : (!fx && atB 1 dolB ts) = false) : valR (f + 1) fx d ts = oneR ts := by
  rw [valR, if_neg (by rw [h0]; simp), if_neg (by rw [h1]; simp), if_neg (by rw [h]; simp)]
/-- The cell of a result that is a value, ahead of a walk. -/
def ResV (w : World) (r : Nat) (W : World) : Prop := W.heap[w.heap.size]? = some (.cells #[.int .i64 0, .int .i64 0, .string ⟨#[]⟩, .slice none 0 0, .slice none 0 0] 35 (0, 0)) ∧ Moved r w W ∧ r < w.heap.size
theorem ResV.start {w : World} {r : Nat} (hr : r < w.heap.size) : ResV w r (w.alloc (.cells #[.int .i64 0, .int .i64 0, .string ⟨#[]⟩, .slice none 0 0, .slice none 0 0] 35)) := ⟨heap_alloc_new _ _, Moved.of_below ((Below.refl _ _).alloc (Nat.le_refl _) _), hr⟩
theorem ResV.next {w : World} {r : Nat} {W W' : World} (h : ResV w r W) (m : Moved r W W') : ResV w r W' := ⟨m.keep h.1 (by have := h.2.2; omega), h.2.1.trans m, h.2.2⟩
abbrev set5 (W : World) (b : Nat) (x0 x1 x2 x3 x4 : Value) : World := ((((W.setCell ⟨b, 0, none⟩ x0).setCell ⟨b, 1, none⟩ x1).setCell ⟨b, 2, none⟩ x2).setCell ⟨b, 3, none⟩ x3).setCell ⟨b, 4, none⟩ x4
theorem set5_size (W : World) (b : Nat) (x0 x1 x2 x3 x4 : Value) : (set5 W b x0 x1 x2 x3 x4).heap.size = W.heap.size := by simp [set5, World.setCell]
theorem set5_other (W : World) (b : Nat) (x0 x1 x2 x3 x4 : Value) {k : Nat} (h : k ≠ b) : (set5 W b x0 x1 x2 x3 x4).heap[k]? = W.heap[k]? := by
  unfold set5
  rw [Below.heap_setCell _ _ _ _ h, Below.heap_setCell _ _ _ _ h, Below.heap_setCell _ _ _ _ h, Below.heap_setCell _ _ _ _ h, Below.heap_setCell _ _ _ _ h]
theorem ResV.fin {w : World} {r : Nat} {W : World} (h : ResV w r W) (x0 x1 x2 x3 x4 : Value) : (set5 W w.heap.size x0 x1 x2 x3 x4).heap[w.heap.size]? = some (.cells #[x0, x1, x2, x3, x4] 35 (0, 0)) ∧ Moved r w (set5 W w.heap.size x0 x1 x2 x3 x4) :=
  ⟨five_set h.1, ((((h.2.1.put (Nat.le_refl _)).put (Nat.le_refl _)).put (Nat.le_refl _)).put (Nat.le_refl _)).put (Nat.le_refl _)⟩
theorem Rd.set5 {w : World} {r b : Nat} {x0 x1 x2 x3 x4 : Value} {ts : List Tok} {d : Nat} (h : Rd w r ts d) (hb : r < b) : Rd (set5 w b x0 x1 x2 x3 x4) r ts d := ((((h.set hb).set hb).set hb).set hb).set hb
/-- A value that a call has made, behind the stores of a result. -/
theorem vp_fin {w W0 W : World} {v : VT} {c0 c1 c2 c3 c4 x0 x1 x2 x3 x4 : Value} (h : VP W (Fresh W0 W) v c0 c1 c2 c3 c4) (h0 : w.heap.size + 1 ≤ W0.heap.size) : VP (set5 W w.heap.size x0 x1 x2 x3 x4) (Fresh w (set5 W w.heap.size x0 x1 x2 x3 x4)) v c0 c1 c2 c3 c4 :=
  VP.keep (fun b hb => by
    have h1 := hb.1
    have h2 := hb.2
    exact ⟨⟨by omega, by rw [set5_size]; exact h2⟩, set5_other _ _ _ _ _ _ _ (by omega)⟩) _ _ _ _ _ _ h
theorem flat_vp (w : World) (P : Nat → Prop) (k n : Int) (s : ByteArray) (hs : s.size ≤ 9000) : VP w P (.mk k n s .nil .nil) (.int .i64 k) (.int .i64 n) (.string s) (.slice none 0 0) (.slice none 0 0) := by
  unfold VP
  exact ⟨rfl, rfl, rfl, by omega, ⟨none, 0, rfl, Nat.zero_le _, by unfold LP; trivial⟩, none, 0, rfl, Nat.zero_le _, by unfold MP; trivial⟩
end Go.Proofs.YtpkmbhnikilihaaGreatDoor
