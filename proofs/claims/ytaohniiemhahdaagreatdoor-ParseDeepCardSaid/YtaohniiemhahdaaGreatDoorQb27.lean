/- The landed Type, whole. -/
import Derived.Test.YtaohniiemhahdaaGreatDoorQb19
import Derived.Test.YtaohniiemhahdaaGreatDoorQb26
namespace Go.Proofs.YtaohniiemhahdaaGreatDoor
open Go.RowKit

def tokB (ts : List (Int × List UInt8)) : List Tok := ts.map fun t => (t.1, ⟨t.2.toArray⟩)
theorem tokB_len (ts : List (Int × List UInt8)) : (tokB ts).length = ts.length := by simp [tokB]
theorem ptokVals_at : ∀ (ts : List (Int × List UInt8)) (j : Nat) t, (tokB ts)[j]? = some t → (tokVals ts)[j * 2]? = some (.int .i64 t.1) ∧ (tokVals ts)[j * 2 + 1]? = some (.string t.2)
  | [], _, _, h => by simp [tokB] at h
  | u :: ts, 0, t, h => by
    have : (u.1, (⟨u.2.toArray⟩ : ByteArray)) = t := by simpa [tokB] using h
    subst this
    exact ⟨rfl, rfl⟩
  | u :: ts, j + 1, t, h => by
    obtain ⟨h0, h1⟩ := ptokVals_at ts j t (by simpa [tokB] using h)
    refine ⟨?_, ?_⟩
    · rw [show (j + 1) * 2 = j * 2 + 2 by omega]; simpa [tokVals] using h0
    · rw [show (j + 1) * 2 + 1 = (j * 2 + 1) + 2 by omega]; simpa [tokVals] using h1
/-- A reader over what was read. -/
theorem rd_start {w : World} {base : Nat} {A : Option Addr} {cap : Nat} {ts : List (Int × List UInt8)} (h : w.ownsRow base 91 2 (.slice A ts.length cap) ts.length (tokVals ts)) (hl : ts.length ≤ 200000) {g : Nat} (hg : g = w.heap.size) : Rd (w.alloc (.cells #[.slice A ts.length cap, .int .i64 0] 118)) g (tokB ts) 0 := by
  subst hg
  have hlt := h.lt
  refine ⟨A, cap, by rw [tokB_len]; exact heap_alloc_new _ _, ?_, by rw [tokB_len]; exact hl, fun j t ht => ?_⟩
  · rw [tokB_len]
    rcases h.2 with ⟨e, h0⟩ | ⟨g, c, cur, e, _, _, hc, _⟩
    · omega
    · injection e with _ _ e; omega
  · obtain ⟨h0, h1⟩ := ptokVals_at ts j t ht
    have hj : j < ts.length := by have := (List.getElem?_eq_some_iff.1 ht).1; rwa [tokB_len] at this
    rcases h.2 with ⟨e, hn⟩ | ⟨g, c, cur, e, _, _, _, _⟩
    · omega
    · injection e with e1 _ _
      subst e1
      have hgl := (hlt g rfl).2
      refine ⟨g, 0, rfl, hgl, ?_, ?_⟩
      · rw [Nat.zero_add, World.cell?_of_block (a := ⟨g, j * 2, none⟩) (Below.heap_alloc _ _ _ hgl), h.cellAt _ (by omega)]; exact h0
      · rw [Nat.zero_add, World.cell?_of_block (a := ⟨g, j * 2 + 1, none⟩) (Below.heap_alloc _ _ _ hgl), h.cellAt _ (by omega)]; exact h1
theorem one_box {w : World} {b : Nat} {z : Value} {t : TypeId} (h : w.heap[b]? = some (.cells #[z] t (0, 0))) : w.cell? ⟨b, 0, none⟩ = some z ∧ w.frozen? ⟨b, 0, none⟩ = false := by
  refine ⟨?_, ?_⟩
  · simp only [World.cell?, h]; rfl
  · simp [World.frozen?, h]
theorem two_below' (w : World) (o o' : Obj) : Below w.heap.size w ((w.alloc o).alloc o') := ((Below.refl _ _).alloc (Nat.le_refl _) o).alloc (by simp) o'
def TZ : Value := .agg #[.string ⟨#[]⟩, .int .i64 0, .int .i64 0]
set_option maxRecDepth 100000 in
set_option maxHeartbeats 4000000 in
theorem wrapped_any (ts : List Tok) (hN : NamesT ts) (r d : Nat) (w : World) (h : Rd w r ts d) : Calls Tryz.prog 39 #[.pointer (some ⟨r, 0, none⟩)] w fun e w' => match typeR 4 ts with
    | .ok ((n, l, m), ts') => e = .returned (.agg #[.string n, .int .i64 (l : Int), .int .i64 (m : Int)]) ∧ Rd w' r ts' d ∧ Moved r w w'
    | .error x => e = PanicE x ∧ Moved r w w' := by
  have HT := fun wx (hb : Below w.heap.size w wx) => Lib.hid (typ_any 4 (Nat.le_refl _) ts hN r d wx (h.below hb))
  have hl := h.lt
  have hb0 := Lib.hid (below_new' w (.cells #[.string ⟨#[]⟩, .int .i64 0, .int .i64 0] 39))
  clear h
  cases ht : typeR 4 ts with
  | error x =>
    rw [ht] at HT
    show Calls _ _ _ _ fun e w' => e = PanicE x ∧ Moved r w w'
    go_enter Tryz.func39, Tryz.ntmps39
    go_wp2_with fail
    refine (HT _ hb0.out).out.mono ?_
    rintro e w1 ⟨rfl, m1⟩
    exact ⟨rfl, rfl, (Moved.of_below hb0.out).trans m1⟩
  | ok p =>
    obtain ⟨⟨n, l, m⟩, ts1⟩ := p
    rw [ht] at HT
    show Calls _ _ _ _ fun e w' => e = .returned (.agg #[.string n, .int .i64 (l : Int), .int .i64 (m : Int)]) ∧ Rd w' r ts1 d ∧ Moved r w w'
    have hc0 := Lib.hid (heap_alloc_last w (.cells #[.string ⟨#[]⟩, .int .i64 0, .int .i64 0] 39))
    go_enter Tryz.func39, Tryz.ntmps39
    go_wp2_with fail
    refine (HT _ hb0.out).out.mono ?_
    rintro e w1 ⟨rfl, r1, m1⟩
    have hc1 := m1.keep hc0.out (by omega)
    have C1 := Lib.hid hc1
    have R1 := Lib.hid (And.intro r1 m1)
    obtain ⟨k0, k1, k2, z0, z1, z2⟩ := ty_cells hc1
    clear r1 m1 hc1 HT
    go_wp2_with fail
    refine ret_tp rfl rfl rfl (ty_set C1.out) ⟨rfl, ((R1.out.1.set hl).set hl).set hl, ?_⟩
    exact ((((Moved.of_below hb0.out).trans R1.out.2).put (Nat.le_refl _)).put (Nat.le_refl _)).put (Nat.le_refl _)
theorem takeWhile_all (p : UInt8 → Bool) : ∀ l : List UInt8, (l.takeWhile p).all p = true
  | [] => rfl
  | b :: t => by
    rw [List.takeWhile_cons]
    split
    · rename_i h
      rw [List.all_cons, h, takeWhile_all p t]; rfl
    · rfl
theorem word_name {l : List UInt8} (h : wordN l ≠ 0) : nameB (l.take (wordN l)) = true := by
  cases l with
  | nil => exact absurd rfl h
  | cons b t =>
    have e0 : wordN (b :: t) = if letU b then 1 + (t.takeWhile nameU).length else 0 := rfl
    rw [e0] at h ⊢
    split
    · rename_i hb
      rw [Nat.add_comm, List.take_succ_cons]
      have e : t.take (t.takeWhile nameU).length = t.takeWhile nameU := (List.prefix_iff_eq_take.1 (List.takeWhile_prefix nameU)).symm
      rw [e]
      show (letB (b.toNat : Int) && tailB _) = true
      rw [show letB (b.toNat : Int) = true from hb, Bool.true_and]
      exact takeWhile_all nameU t
    · rename_i hb
      rw [if_neg hb] at h
      exact absurd rfl h
theorem tok_name {l : List UInt8} {x : List UInt8} {n : Nat} (h : tokL l = some ((2, x), n)) : nameB x = true ∧ x.length ≤ l.length := by
  unfold tokL at h
  split at h
  · cases h
  · split at h
    · rename_i hw
      have := (Prod.mk.inj (Prod.mk.inj (Option.some.inj h)).1).2
      subst this
      exact ⟨word_name hw, by rw [List.length_take]; omega⟩
    · split at h
      · rename_i hn
        have h2 := (Prod.mk.inj (Prod.mk.inj (Option.some.inj h)).1).1
        have hz : (numberL l).2 = 0 ∨ (numberL l).2 = 3 ∨ (numberL l).2 = 4 := by
          unfold numberL
          split
          · exact .inl rfl
          · split
            · exact .inl rfl
            · unfold numeralL
              split
              · exact .inl rfl
              · simp only
                split
                · exact .inr (.inl rfl)
                · exact .inr (.inr rfl)
        omega
      · cases hq : quoteL l with
        | none => rw [hq] at h; cases h
        | some q => rw [hq] at h; cases h
theorem readF_names : ∀ (n : Nat) (l : List UInt8) ts, readF n l = some ts → ∀ t ∈ ts, t.1 = 2 → nameB t.2 = true ∧ t.2.length ≤ l.length
  | 0, _, _, h => by cases h
  | n + 1, l, ts, h => by
    rw [readF] at h
    split at h
    · intro t ht hk
      have := readF_names n _ ts h t ht hk
      exact ⟨this.1, Nat.le_trans this.2 (by rw [List.length_drop]; omega)⟩
    · split at h
      · cases h
        intro t ht; cases ht
      · cases hk : tokL l with
        | none => rw [hk] at h; cases h
        | some p =>
          obtain ⟨⟨k, x⟩, m⟩ := p
          rw [hk] at h
          cases hr : readF n (l.drop m) with
          | none => simp only [hr] at h; cases h
          | some us =>
            simp only [hr] at h
            have h := Option.some.inj h
            subst h
            intro t ht h2
            rcases List.mem_cons.1 ht with e | e
            · subst e
              have h2 : k = 2 := h2
              subst h2
              exact tok_name hk
            · have := readF_names n _ us hr t e h2
              exact ⟨this.1, Nat.le_trans this.2 (by rw [List.length_drop]; omega)⟩
theorem read_names {s : ByteArray} {ts : List (Int × List UInt8)} (hs : s.size ≤ 9000) (h : readL s.data.toList = some ts) : NamesT (tokB ts) := by
  intro t ht hk
  unfold tokB at ht
  obtain ⟨u, hu, rfl⟩ := List.mem_map.1 ht
  have := readF_names _ _ ts h u hu hk
  refine ⟨by simpa using this.1, ?_⟩
  have h2 : (⟨u.2.toArray⟩ : ByteArray).size = u.2.length := by rw [Lib.size_eq]
  have h3 : s.data.toList.length = s.size := Array.length_toList
  show (⟨u.2.toArray⟩ : ByteArray).size ≤ 9000
  omega
/-- The reader that is made. -/
theorem whole_rd {w w2 : World} {A : Option Addr} {cap : Nat} {ts : List (Int × List UInt8)} {v : Value} {B : Nat} (h : w2.ownsRow B 91 2 (.slice A ts.length cap) ts.length (tokVals ts)) (hl : ts.length ≤ 200000) (hb : w.heap.size + 2 ≤ B) :
    Rd ((w2.setCell ⟨w.heap.size + 1, 0, none⟩ v).alloc (.cells #[.slice A ts.length cap, .int .i64 0] 118)) w2.heap.size (tokB ts) 0 := by
  have hk : (w2.setCell ⟨w.heap.size + 1, 0, none⟩ v).ownsRow B 91 2 (.slice A ts.length cap) ts.length (tokVals ts) := by
    refine World.ownsRow.kept h (Moved.set (r := w.heap.size + 1)) ?_
    cases e : (Value.slice A ts.length cap).ownBlock with
    | none => exact .inl rfl
    | some k => exact .inr (fun e' => by have := (h.lt k e).1; injection e' with e'; omega)
  exact rd_start hk hl (by simp [World.setCell])
/-- The two cells ahead of a reader. -/
theorem whole_two {w w2 : World} {x y z u v : Value} {o : Obj} (h4 : w2.heap[w.heap.size]? = some (.cells #[x, y, z] 39 (0, 0))) (h5 : w2.heap[w.heap.size + 1]? = some (.cells #[u] 27 (0, 0))) :
    ((w2.setCell ⟨w.heap.size + 1, 0, none⟩ v).alloc o).heap[w.heap.size]? = some (.cells #[x, y, z] 39 (0, 0)) ∧ ((w2.setCell ⟨w.heap.size + 1, 0, none⟩ v).alloc o).heap[w.heap.size + 1]? = some (.cells #[v] 27 (0, 0)) ∧ Moved (w.heap.size + 1) w2 ((w2.setCell ⟨w.heap.size + 1, 0, none⟩ v).alloc o) ∧ w.heap.size + 2 ≤ w2.heap.size := by
  have l5 := (Array.getElem?_eq_some_iff.1 h5).1
  have hs : (w2.setCell ⟨w.heap.size + 1, 0, none⟩ v).heap.size = w2.heap.size := by simp [World.setCell]
  refine ⟨?_, ?_, Moved.set.trans (Moved.of_below (below_new' _ _)), by omega⟩
  · rw [Below.heap_alloc _ _ _ (by rw [hs]; omega), Below.heap_setCell _ _ _ _ (Nat.ne_of_lt (Nat.lt_succ_self _))]; exact h4
  · rw [Below.heap_alloc _ _ _ (by rw [hs]; omega)]; exact heap_setCell_same _ _ 0 _ _ _ h5
theorem whole_low {w w2 w3 w4 : World} (h : Below w.heap.size w w2) (m : Moved (w.heap.size + 1) w2 w3) (m' : Moved w2.heap.size w3 w4) (hlt : w.heap.size + 2 ≤ w2.heap.size) : Below w.heap.size w w4 :=
  ⟨m'.os.trans (m.os.trans h.os), m'.tape.trans (m.tape.trans h.tape), m'.output.trans (m.output.trans h.output), Nat.le_trans h.size (Nat.le_trans m.size m'.size), fun k hk => (m'.block k (by have := m.size; omega) (fun e => by injection e; omega)).trans ((m.block k (by omega) (fun e => by injection e; omega)).trans (h.block k hk))⟩
/-- Behind what recovers: the two cells are read. -/
theorem leaves_two {fn : Func} {R : Ending → World → Prop} {tmps : Array Value} {W : World} {x y z u : Value} {b4 b5 : Nat} (hf : fn.results = #[.cell 4 39, .cell 5 27]) (h4 : W.heap[b4]? = some (.cells #[x, y, z] 39 (0, 0))) (h5 : W.heap[b5]? = some (.cells #[u] 27 (0, 0)))
    (t4 : tmps.getD 4 undef = .pointer (some ⟨b4, 0, none⟩)) (t5 : tmps.getD 5 undef = .pointer (some ⟨b5, 0, none⟩)) (hR : R (.returned (.tuple #[.agg #[x, y, z], u])) W) : Leaves Tryz.prog fn tmps R [] .returning W := by
  obtain ⟨k0, k1, k2, _, _, _⟩ := ty_cells h4
  have c5 := (one_box h5).1
  have t4' : tmps[4]?.getD undef = .pointer (some ⟨b4, 0, none⟩) := by rw [← t4]; simp
  have t5' : tmps[5]?.getD undef = .pointer (some ⟨b5, 0, none⟩) := by rw [← t5]; simp
  simp [Leaves, results, hf, t4', t5', asAddr, go_sem, k0, k1, k2, c5]
  exact hR
theorem whole_three {w w4 : World} {x y z v : Value} {o : Obj} (h4 : w4.heap[w.heap.size]? = some (.cells #[x, y, z] 39 (0, 0))) (h5 : w4.heap[w.heap.size + 1]? = some (.cells #[v] 27 (0, 0))) :
    (w4.alloc o).heap[w.heap.size]? = some (.cells #[x, y, z] 39 (0, 0)) ∧ (w4.alloc o).heap[w.heap.size + 1]? = some (.cells #[v] 27 (0, 0)) ∧ (w4.alloc o).heap[w4.heap.size]? = some o :=
  ⟨(Below.heap_alloc _ _ _ (Array.getElem?_eq_some_iff.1 h4).1).trans h4, (Below.heap_alloc _ _ _ (Array.getElem?_eq_some_iff.1 h5).1).trans h5, heap_alloc_last _ _⟩
set_option maxRecDepth 100000 in
set_option maxHeartbeats 4000000 in
theorem wholeT_no (s : ByteArray) (w : World) (hs : s.size ≤ 9000) (hw : Laid3 w) (ts : List (Int × List UInt8)) (hr : readS s.data.toList = (ts, 0)) (hl : ts.length ≤ 200000) (hN : NamesT (tokB ts)) (x : Int) (ht : typeR 4 (tokB ts) = .error x) : Calls Tryz.prog 38 #[.string s, .func (.func 39) #[] #[]] w fun e w' => e = .returned (.tuple #[TZ, .int .i64 x]) ∧ Below w.heap.size w w' := by
  have hmf : ∀ (fn : Fn) (first cap : Array Value) (w : World), (Instr.makeFunc fn first cap).run Tryz.prog w = .ok (.func fn first cap) w := fun _ _ _ _ => rfl
  have HR := fun wx (hb : Below w.heap.size w wx) => Lib.hid (by have := read_any s wx hs (hw.below hb); rw [hr] at this; exact this)
  have HT := fun r wx (h : Rd wx r (tokB ts) 0) => Lib.hid (by have := wrapped_any (tokB ts) hN r 0 wx h; rw [ht] at this; exact this)
  have B0 := Lib.hid (two_below' w (.cells #[.string ⟨#[]⟩, .int .i64 0, .int .i64 0] 39) (.cells #[.int .i64 0] 27))
  obtain ⟨y0, y1⟩ := new_two w (.cells #[.string ⟨#[]⟩, .int .i64 0, .int .i64 0] 39) (.cells #[.int .i64 0] 27)
  have Y := Lib.hid (And.intro y0 y1)
  have hsz : Hid (((w.alloc (.cells #[.string ⟨#[]⟩, .int .i64 0, .int .i64 0] 39)).alloc (.cells #[.int .i64 0] 27)).heap.size = w.heap.size + 2) := Lib.hid (by simp)
  clear hr hN ht y0 y1
  go_enter_defers Tryz.func38, Tryz.ntmps38
  go_wp2_with fail
  refine (HR _ B0.out).out.mono ?_
  rintro e w2 ⟨A, cap, rfl, hown, hb2⟩
  have z4 := (hb2.block w.heap.size (by have := hsz.out; omega)).trans Y.out.1
  have z5 := (hb2.block (w.heap.size + 1) (by have := hsz.out; omega)).trans Y.out.2
  obtain ⟨k0, k1, k2, f0, f1, f2⟩ := ty_cells z4
  obtain ⟨e0, e1⟩ := one_box z5
  have Z := Lib.hid (And.intro z4 z5)
  have B2 := Lib.hid (B0.out.trans (hb2.mono (by have := hsz.out; omega)))
  have OW := Lib.hid hown
  clear hb2 hown z4 z5
  go_wp2_with fail
  have R3 := Lib.hid (whole_rd (w := w) OW.out hl (Nat.le_of_eq hsz.out.symm) (v := .int .i64 0))
  have D3 := Lib.hid (whole_two Z.out.1 Z.out.2 (v := .int .i64 0) (o := .cells #[.slice A ts.length cap, .int .i64 0] 118))
  refine (HT _ _ R3.out).out.mono ?_
  rintro e w4 ⟨rfl, m4⟩
  have z4 := m4.keep D3.out.1 (by have := D3.out.2.2.2; omega)
  have z5 := m4.keep D3.out.2.1 (by have := D3.out.2.2.2; omega)
  obtain ⟨e0', e1'⟩ := one_box z5
  have hlt5 := (Array.getElem?_eq_some_iff.1 z5).1
  have B4 := Lib.hid (whole_low B2.out D3.out.2.2.1 m4 D3.out.2.2.2)
  have Z4 := Lib.hid (And.intro z4 z5)
  clear e0 e1 k0 k1 k2 f0 f1 f2
  refine leaves_cons (f := 96) (args := #[.pointer (some ⟨w.heap.size + 1, 0, none⟩)]) (by simp) (by simp [go_sem]) ?_
  refine (catchT_panicking ⟨w.heap.size + 1, 0, none⟩ 0 x [] _ e0' e1' hlt5).mono ?_
  rintro e u' w'' ⟨rfl, rfl, rfl⟩
  refine leaves_two rfl (b4 := w.heap.size) (b5 := w.heap.size + 1) (x := .string ⟨#[]⟩) (y := .int .i64 0) (z := .int .i64 0) (u := .int .i64 x) ?_ ?_ rfl rfl ⟨rfl, ?_⟩
  · rw [Below.heap_setCell _ _ _ _ (Nat.ne_of_lt (Nat.lt_succ_self _)), Below.heap_alloc _ _ _ (by omega)]; exact Z4.out.1
  · exact heap_setCell_same _ _ 0 _ _ _ ((Below.heap_alloc _ _ _ hlt5).trans Z4.out.2)
  · exact (B4.out.alloc B4.out.size _).setCell (Nat.le_succ _) _
set_option maxRecDepth 100000 in
set_option maxHeartbeats 4000000 in
theorem wholeT_more (s : ByteArray) (w : World) (hs : s.size ≤ 9000) (hw : Laid3 w) (ts : List (Int × List UInt8)) (hr : readS s.data.toList = (ts, 0)) (hl : ts.length ≤ 200000) (hN : NamesT (tokB ts)) (p : ByteArray × Nat × Nat) (t : Tok) (ts2 : List Tok) (ht : typeR 4 (tokB ts) = .ok (p, t :: ts2)) : Calls Tryz.prog 38 #[.string s, .func (.func 39) #[] #[]] w fun e w' => e = .returned (.tuple #[TZ, .int .i64 2]) ∧ Below w.heap.size w w' := by
  obtain ⟨n, l, m⟩ := p
  have hmf : ∀ (fn : Fn) (first cap : Array Value) (w : World), (Instr.makeFunc fn first cap).run Tryz.prog w = .ok (.func fn first cap) w := fun _ _ _ _ => rfl
  have HR := fun wx (hb : Below w.heap.size w wx) => Lib.hid (by have := read_any s wx hs (hw.below hb); rw [hr] at this; exact this)
  have HT := fun r wx (h : Rd wx r (tokB ts) 0) => Lib.hid (by have := wrapped_any (tokB ts) hN r 0 wx h; rw [ht] at this; exact this)
  have B0 := Lib.hid (two_below' w (.cells #[.string ⟨#[]⟩, .int .i64 0, .int .i64 0] 39) (.cells #[.int .i64 0] 27))
  obtain ⟨y0, y1⟩ := new_two w (.cells #[.string ⟨#[]⟩, .int .i64 0, .int .i64 0] 39) (.cells #[.int .i64 0] 27)
  have Y := Lib.hid (And.intro y0 y1)
  have hsz : Hid (((w.alloc (.cells #[.string ⟨#[]⟩, .int .i64 0, .int .i64 0] 39)).alloc (.cells #[.int .i64 0] 27)).heap.size = w.heap.size + 2) := Lib.hid (by simp)
  clear hr hN ht y0 y1
  go_enter_defers Tryz.func38, Tryz.ntmps38
  go_wp2_with fail
  refine (HR _ B0.out).out.mono ?_
  rintro e w2 ⟨A, cap, rfl, hown, hb2⟩
  have z4 := (hb2.block w.heap.size (by have := hsz.out; omega)).trans Y.out.1
  have z5 := (hb2.block (w.heap.size + 1) (by have := hsz.out; omega)).trans Y.out.2
  obtain ⟨k0, k1, k2, f0, f1, f2⟩ := ty_cells z4
  obtain ⟨e0, e1⟩ := one_box z5
  have Z := Lib.hid (And.intro z4 z5)
  have B2 := Lib.hid (B0.out.trans (hb2.mono (by have := hsz.out; omega)))
  have OW := Lib.hid hown
  clear hb2 hown z4 z5
  go_wp2_with fail
  have R3 := Lib.hid (whole_rd (w := w) OW.out hl (Nat.le_of_eq hsz.out.symm) (v := .int .i64 0))
  have D3 := Lib.hid (whole_two Z.out.1 Z.out.2 (v := .int .i64 0) (o := .cells #[.slice A ts.length cap, .int .i64 0] 118))
  refine (HT _ _ R3.out).out.mono ?_
  rintro e w4 ⟨rfl, r4, m4⟩
  have z4 := m4.keep D3.out.1 (by have := D3.out.2.2.2; omega)
  have z5 := m4.keep D3.out.2.1 (by have := D3.out.2.2.2; omega)
  have B4 := Lib.hid (whole_low B2.out D3.out.2.2.1 m4 D3.out.2.2.2)
  have Z4 := Lib.hid (And.intro z4 z5)
  have HE := Lib.hid (fun wx (hb : Below w4.heap.size w4 wx) => ended_any w2.heap.size (t :: ts2) 0 wx (r4.below hb))
  have hlt4 : w.heap.size + 1 < w4.heap.size := (Array.getElem?_eq_some_iff.1 z5).1
  clear e0 e1 k0 k1 k2 f0 f1 f2 z4 z5 r4 m4
  go_wp2_with fail
  refine (HE.out _ (below_new' _ _)).mono ?_
  rintro e w5 ⟨rfl, rfl⟩
  have A6 := Lib.hid (whole_three Z4.out.1 Z4.out.2 (o := .cells #[.string n, .int .i64 (l : Int), .int .i64 (m : Int)] 39))
  obtain ⟨e0, e1⟩ := one_box A6.out.2.1
  have hlt5 : w.heap.size + 1 < (w4.alloc (.cells #[.string n, .int .i64 (l : Int), .int .i64 (m : Int)] 39)).heap.size := by simp; omega
  go_wp2_with fail
  refine leaves_cons (f := 96) (args := #[.pointer (some ⟨w.heap.size + 1, 0, none⟩)]) (by simp) (by simp [go_sem]) ?_
  refine (catchT_panicking ⟨w.heap.size + 1, 0, none⟩ 0 2 [] _ e0 e1 hlt5).mono ?_
  rintro e u' w'' ⟨rfl, rfl, rfl⟩
  refine leaves_two rfl (b4 := w.heap.size) (b5 := w.heap.size + 1) (x := .string ⟨#[]⟩) (y := .int .i64 0) (z := .int .i64 0) (u := .int .i64 2) ?_ ?_ rfl rfl ⟨rfl, ?_⟩
  · rw [Below.heap_setCell _ _ _ _ (Nat.ne_of_lt (Nat.lt_succ_self _)), Below.heap_alloc _ _ _ (by omega)]; exact A6.out.1
  · exact heap_setCell_same _ _ 0 _ _ _ ((Below.heap_alloc _ _ _ hlt5).trans A6.out.2.1)
  · exact ((B4.out.alloc B4.out.size _).alloc (by have := B4.out.size; simp; omega) _).setCell (Nat.le_succ _) _
set_option maxRecDepth 100000 in
set_option maxHeartbeats 4000000 in
theorem wholeT_yes (s : ByteArray) (w : World) (hs : s.size ≤ 9000) (hw : Laid3 w) (ts : List (Int × List UInt8)) (hr : readS s.data.toList = (ts, 0)) (hl : ts.length ≤ 200000) (hN : NamesT (tokB ts)) (n : ByteArray) (l m : Nat) (ht : typeR 4 (tokB ts) = .ok ((n, l, m), [])) : Calls Tryz.prog 38 #[.string s, .func (.func 39) #[] #[]] w fun e w' => e = .returned (.tuple #[.agg #[.string n, .int .i64 (l : Int), .int .i64 (m : Int)], .int .i64 0]) ∧ Below w.heap.size w w' := by
  have hmf : ∀ (fn : Fn) (first cap : Array Value) (w : World), (Instr.makeFunc fn first cap).run Tryz.prog w = .ok (.func fn first cap) w := fun _ _ _ _ => rfl
  have HR := fun wx (hb : Below w.heap.size w wx) => Lib.hid (by have := read_any s wx hs (hw.below hb); rw [hr] at this; exact this)
  have HT := fun r wx (h : Rd wx r (tokB ts) 0) => Lib.hid (by have := wrapped_any (tokB ts) hN r 0 wx h; rw [ht] at this; exact this)
  have B0 := Lib.hid (two_below' w (.cells #[.string ⟨#[]⟩, .int .i64 0, .int .i64 0] 39) (.cells #[.int .i64 0] 27))
  obtain ⟨y0, y1⟩ := new_two w (.cells #[.string ⟨#[]⟩, .int .i64 0, .int .i64 0] 39) (.cells #[.int .i64 0] 27)
  have Y := Lib.hid (And.intro y0 y1)
  have hsz : Hid (((w.alloc (.cells #[.string ⟨#[]⟩, .int .i64 0, .int .i64 0] 39)).alloc (.cells #[.int .i64 0] 27)).heap.size = w.heap.size + 2) := Lib.hid (by simp)
  clear hr hN ht y0 y1
  go_enter_defers Tryz.func38, Tryz.ntmps38
  go_wp2_with fail
  refine (HR _ B0.out).out.mono ?_
  rintro e w2 ⟨A, cap, rfl, hown, hb2⟩
  have z4 := (hb2.block w.heap.size (by have := hsz.out; omega)).trans Y.out.1
  have z5 := (hb2.block (w.heap.size + 1) (by have := hsz.out; omega)).trans Y.out.2
  obtain ⟨k0, k1, k2, f0, f1, f2⟩ := ty_cells z4
  obtain ⟨e0, e1⟩ := one_box z5
  have Z := Lib.hid (And.intro z4 z5)
  have B2 := Lib.hid (B0.out.trans (hb2.mono (by have := hsz.out; omega)))
  have OW := Lib.hid hown
  clear hb2 hown z4 z5
  go_wp2_with fail
  have R3 := Lib.hid (whole_rd (w := w) OW.out hl (Nat.le_of_eq hsz.out.symm) (v := .int .i64 0))
  have D3 := Lib.hid (whole_two Z.out.1 Z.out.2 (v := .int .i64 0) (o := .cells #[.slice A ts.length cap, .int .i64 0] 118))
  refine (HT _ _ R3.out).out.mono ?_
  rintro e w4 ⟨rfl, r4, m4⟩
  have z4 := m4.keep D3.out.1 (by have := D3.out.2.2.2; omega)
  have z5 := m4.keep D3.out.2.1 (by have := D3.out.2.2.2; omega)
  have B4 := Lib.hid (whole_low B2.out D3.out.2.2.1 m4 D3.out.2.2.2)
  have Z4 := Lib.hid (And.intro z4 z5)
  have HE := Lib.hid (fun wx (hb : Below w4.heap.size w4 wx) => ended_any w2.heap.size [] 0 wx (r4.below hb))
  have hlt4 : w.heap.size + 1 < w4.heap.size := (Array.getElem?_eq_some_iff.1 z5).1
  clear e0 e1 k0 k1 k2 f0 f1 f2 z4 z5 r4 m4
  go_wp2_with fail
  refine (HE.out _ (below_new' _ _)).mono ?_
  rintro e w5 ⟨rfl, rfl⟩
  have A6 := Lib.hid (whole_three Z4.out.1 Z4.out.2 (o := .cells #[.string n, .int .i64 (l : Int), .int .i64 (m : Int)] 39))
  obtain ⟨k0, k1, k2, f0, f1, f2⟩ := ty_cells A6.out.1
  obtain ⟨e0, e1⟩ := one_box A6.out.2.1
  obtain ⟨j0, j1, j2, y0, y1, y2⟩ := ty_cells A6.out.2.2
  go_wp2_with fail
  refine leaves_cons (f := 96) (args := #[.pointer (some ⟨w.heap.size + 1, 0, none⟩)]) (by simp) (by simp [go_sem]) ?_
  refine (catchT_idle ⟨w.heap.size + 1, 0, none⟩ _).mono ?_
  rintro e u' w'' ⟨rfl, rfl, rfl⟩
  refine leaves_two rfl (b4 := w.heap.size) (b5 := w.heap.size + 1) (x := .string n) (y := .int .i64 (l : Int)) (z := .int .i64 (m : Int)) (u := .int .i64 0) ?_ ?_ rfl rfl ⟨rfl, ?_⟩
  · exact wset_other (ty_set A6.out.1) (by omega)
  · exact heap_setCell_same _ _ 0 _ _ _ (wset_other (wset_other (wset_other A6.out.2.1 (by omega)) (by omega)) (by omega))
  · exact ((((B4.out.alloc B4.out.size _).setCell (Nat.le_refl _) _).setCell (Nat.le_refl _) _).setCell (Nat.le_refl _) _).setCell (Nat.le_succ _) _
end Go.Proofs.YtaohniiemhahdaaGreatDoor
