/- The landed reader of types: wrappedIn, wrapped. (gen_type.py wrote it.) -/
import Derived.Test.YtpkmbhnikilihaaGreatDoorQp3
import Derived.Laws.OwnMore
import Derived.OwnWalk
namespace Go.Proofs.YtpkmbhnikilihaaGreatDoor
open Go.RowKit
def oB : ByteArray := ⟨#[91]⟩
def cB : ByteArray := ⟨#[93]⟩
def bB : ByteArray := ⟨#[33]⟩
def bangR (n : ByteArray) (l m : Nat) (ts : List Tok) : (ByteArray × Nat × Nat) × List Tok := if atB 1 bB ts = true then ((n, l, m ||| 1), ts.tail) else ((n, l, m), ts)
def typeR : Nat → List Tok → Except Int ((ByteArray × Nat × Nat) × List Tok)
 | left, ts =>
   if atB 1 oB ts = true then
    match left with
    | 0 => .error 4
    | left + 1 =>
      match typeR left ts.tail with
      | .error e => .error e
      | .ok ((n, l, m), ts1) => if atB 1 cB ts1 = true then .ok (bangR n (l + 1) (2 * m) ts1.tail) else .error 2
   else
    match nameR ts with
    | none => .error 2
    | some (n, ts1) => .ok (bangR n 0 0 ts1)
theorem typeR_name {left : Nat} {ts : List Tok} (h : atB 1 oB ts = false) : typeR left ts = (match nameR ts with | none => .error 2 | some (n, ts1) => .ok (bangR n 0 0 ts1)) := by
 cases left <;> (rw [typeR, if_neg (by rw [h]; decide)])
theorem typeR_deep {ts : List Tok} (h : atB 1 oB ts = true) : typeR 0 ts = .error 4 := by rw [typeR, if_pos h]
theorem typeR_list {left : Nat} {ts : List Tok} (h : atB 1 oB ts = true) : typeR (left + 1) ts = (match typeR left ts.tail with
        | .error e => .error e
        | .ok ((n, l, m), ts1) => if atB 1 cB ts1 = true then .ok (bangR n (l + 1) (2 * m) ts1.tail) else .error 2) := by rw [typeR, if_pos h]
def NamesT (ts : List Tok) : Prop := ∀ t ∈ ts, t.1 = 2 → nameB t.2.data.toList = true ∧ t.2.size ≤ 9000
theorem NamesT.tail {ts : List Tok} (h : NamesT ts) : NamesT ts.tail := fun t ht => h t (List.mem_of_mem_tail ht)
theorem nameR_good {ts ts1 : List Tok} {n : ByteArray} (h : NamesT ts) (hn : nameR ts = some (n, ts1)) : nameB n.data.toList = true ∧ n.size ≤ 9000 ∧ NamesT ts1 := by
 cases ts with
 | nil => cases hn
 | cons t ts =>
   change (if t.1 = 2 then some (t.2, ts) else none) = some (n, ts1) at hn
   split at hn
   · rename_i hk
     obtain ⟨e1, e2⟩ := Prod.mk.inj (Option.some.inj hn)
     subst e1 e2
     exact ⟨(h t (by simp) hk).1, (h t (by simp) hk).2, fun u hu => h u (by simp [hu])⟩
   · cases hn
def RightN (n : ByteArray) (l m left : Nat) (ts : List Tok) : Prop := nameB n.data.toList = true ∧ n.size ≤ 9000 ∧ l ≤ left ∧ m < 2 ^ (l + 1) ∧ NamesT ts
theorem or_one (m : Nat) : (m ||| 1) = 2 * (m / 2) + 1 := by
 have h := Nat.shiftLeft_add_eq_or_of_lt (a := m / 2) (b := 1) (i := 1) (by decide)
 rw [Nat.shiftLeft_eq] at h
 have : m ||| 1 = (m / 2 * 2 ^ 1) ||| 1 := by
  apply Nat.eq_of_testBit_eq
  intro i
  rw [Nat.testBit_or, Nat.testBit_or]
  cases i with
  | zero => simp
  | succ i => simp [Nat.testBit_succ]
 rw [this, ← h]; omega
theorem bang_right {n : ByteArray} {l m left : Nat} {ts : List Tok} (h : RightN n l m left ts) : RightN (bangR n l m ts).1.1 (bangR n l m ts).1.2.1 (bangR n l m ts).1.2.2 left (bangR n l m ts).2 := by
 obtain ⟨h1, h2, h3, h4, h5⟩ := h
 unfold bangR
 split
 · refine ⟨h1, h2, h3, ?_, h5.tail⟩
   show m ||| 1 < _
   have h4' : m < 2 ^ l * 2 := by rw [← Nat.pow_succ]; exact h4
   rw [or_one]
   show _ < 2 ^ (l + 1)
   rw [Nat.pow_succ]
   omega
 · exact ⟨h1, h2, h3, h4, h5⟩
theorem type_right : ∀ (left : Nat) (ts : List Tok), NamesT ts → ∀ n l m ts', typeR left ts = .ok ((n, l, m), ts') → RightN n l m left ts' := by
 intro left
 induction left with
 | zero =>
   intro ts hN n l m ts' h
   cases hb : atB 1 oB ts with
   | true => rw [typeR_deep hb] at h; cases h
   | false =>
     rw [typeR_name hb] at h
     cases hn : nameR ts with
     | none => rw [hn] at h; cases h
     | some p =>
       obtain ⟨x, ts1⟩ := p
       rw [hn] at h
       injection h with h
       obtain ⟨g1, g2, g3⟩ := nameR_good hN hn
       have := bang_right (n := x) (l := 0) (m := 0) (left := 0) (ts := ts1) ⟨g1, g2, Nat.le_refl _, by decide, g3⟩
       rw [h] at this
       exact this
 | succ left ih =>
   intro ts hN n l m ts' h
   cases hb : atB 1 oB ts with
   | true =>
     rw [typeR_list hb] at h
     cases hi : typeR left ts.tail with
     | error e => rw [hi] at h; cases h
     | ok p =>
       obtain ⟨⟨x, a, b⟩, ts1⟩ := p
       rw [hi] at h
       obtain ⟨g1, g2, g3, g4, g5⟩ := ih _ hN.tail _ _ _ _ hi
       simp only at h
       split at h
       · injection h with h
         have := bang_right (n := x) (l := a + 1) (m := 2 * b) (left := left + 1) (ts := ts1.tail) ⟨g1, g2, by omega, by rw [Nat.pow_succ]; omega, g5.tail⟩
         rw [h] at this
         exact this
       · cases h
   | false =>
     rw [typeR_name hb] at h
     cases hn : nameR ts with
     | none => rw [hn] at h; cases h
     | some p =>
       obtain ⟨x, ts1⟩ := p
       rw [hn] at h
       injection h with h
       obtain ⟨g1, g2, g3⟩ := nameR_good hN hn
       have := bang_right (n := x) (l := 0) (m := 0) (left := left + 1) (ts := ts1) ⟨g1, g2, Nat.zero_le _, by decide, g3⟩
       rw [h] at this
       exact this
theorem Moved.keep {r b : Nat} {w w' : World} {o : Obj} (m : Moved r w w') (h : w.heap[b]? = some o) (hb : b ≠ r) : w'.heap[b]? = some o :=
 (m.block b (Array.getElem?_eq_some_iff.1 h).1 (fun e => hb (by injection e))).trans h
theorem Rd.set {w : World} {r b i : Nat} {v : Value} {ts : List Tok} {d : Nat} (h : Rd w r ts d) (hb : r < b) : Rd (w.setCell ⟨b, i, none⟩ v) r ts d := by
 have hl := h.lt
 obtain ⟨A, c, h0, h1, h2, h3⟩ := h
 refine ⟨A, c, (Below.heap_setCell _ _ _ _ (by show r ≠ b; omega)).trans h0, h1, h2, fun j t ht => ?_⟩
 obtain ⟨x, o, e, hx, g0, g1⟩ := h3 j t ht
 have hs : (w.setCell ⟨b, i, none⟩ v).heap[x]? = w.heap[x]? := Below.heap_setCell _ _ _ _ (by show x ≠ b; omega)
 exact ⟨x, o, e, hx, (World.cell?_of_block (a := ⟨x, o + j * 2, none⟩) hs).trans g0, (World.cell?_of_block (a := ⟨x, o + j * 2 + 1, none⟩) hs).trans g1⟩
def TwoT (w : World) (r : Nat) (x y z x' y' z' : Value) (W : World) : Prop := W.heap[w.heap.size]? = some (.cells #[x, y, z] 39 (0, 0)) ∧ W.heap[w.heap.size + 1]? = some (.cells #[x', y', z'] 39 (0, 0)) ∧ Moved r w W ∧ r < w.heap.size
theorem TwoT.next {w : World} {r : Nat} {x y z x' y' z' : Value} {W W' : World} (h : TwoT w r x y z x' y' z' W) (m : Moved r W W') : TwoT w r x y z x' y' z' W' :=
 ⟨m.keep h.1 (by have := h.2.2.2; omega), m.keep h.2.1 (by have := h.2.2.2; omega), h.2.2.1.trans m, h.2.2.2⟩
theorem Moved.put {r b i : Nat} {w W : World} {v : Value} (h : Moved r w W) (hb : w.heap.size ≤ b) : Moved r w (W.setCell ⟨b, i, none⟩ v) :=
 ⟨h.os, h.tape, h.output, by simp [World.setCell]; exact h.size, fun k hk hn => (Below.heap_setCell _ _ _ _ (by show k ≠ b; omega)).trans (h.block k hk hn)⟩
theorem TwoT.set2 {w : World} {r : Nat} {x y z x' y' z' : Value} {W : World} (h : TwoT w r x y z x' y' z' W) (a b c : Value) : TwoT w r x y z a b c (((W.setCell ⟨w.heap.size + 1, 0, none⟩ a).setCell ⟨w.heap.size + 1, 1, none⟩ b).setCell ⟨w.heap.size + 1, 2, none⟩ c) :=
 ⟨wset_other (wset_other (wset_other h.1 (by omega)) (by omega)) (by omega), ty_set h.2.1, ((h.2.2.1.put (Nat.le_succ _)).put (Nat.le_succ _)).put (Nat.le_succ _), h.2.2.2⟩
theorem TwoT.set1 {w : World} {r : Nat} {x y z x' y' z' : Value} {W : World} (h : TwoT w r x y z x' y' z' W) (a b c : Value) : TwoT w r a b c x' y' z' (((W.setCell ⟨w.heap.size, 0, none⟩ a).setCell ⟨w.heap.size, 1, none⟩ b).setCell ⟨w.heap.size, 2, none⟩ c) :=
 ⟨ty_set h.1, wset_other (wset_other (wset_other h.2.1 (by omega)) (by omega)) (by omega), ((h.2.2.1.put (Nat.le_refl _)).put (Nat.le_refl _)).put (Nat.le_refl _), h.2.2.2⟩
theorem TwoT.setn {w : World} {r : Nat} {x y z x' y' z' : Value} {W : World} (h : TwoT w r x y z x' y' z' W) (a : Value) : TwoT w r x y z a y' z' (W.setCell ⟨w.heap.size + 1, 0, none⟩ a) :=
 ⟨wset_other h.1 (by omega), heap_setCell_same _ _ 0 _ _ _ h.2.1, h.2.2.1.put (Nat.le_succ _), h.2.2.2⟩
theorem TwoT.start (w : World) (r : Nat) (x y z x' y' z' : Value) (hr : r < w.heap.size) : TwoT w r x y z x' y' z' ((w.alloc (.cells #[x, y, z] 39)).alloc (.cells #[x', y', z'] 39)) := by
 obtain ⟨h0, h1⟩ := new_two w (.cells #[x, y, z] 39) (.cells #[x', y', z'] 39)
 exact ⟨h0, h1, (Moved.of_below (blw w _)).trans (Moved.of_below (blw _ _)), hr⟩
theorem ret_tp {R : Ending → World → Prop} {fn : Func} {a : Act} {W : World} {x y z : Value} {b p : Nat} (hf : fn.results = #[.cell p 39]) (h2 : a.tmps.getD p undef = .pointer (some ⟨b, 0, none⟩)) (hd : a.defers = [])
  (hc : W.heap[b]? = some (.cells #[x, y, z] 39 (0, 0))) (hR : R (.returned (.agg #[x, y, z])) W) : bodyPost Tryz.prog fn R .ret a W := by
 have hl : (loadVar 39 ⟨b, 0, none⟩).run Tryz.prog W = .ok (.agg #[x, y, z]) W :=
  run_loadVar_row W b 39 39 #[x, y, z] (0, 0) _ hc Tryz.underlying39 rfl (by kernel_rfl)
 refine bodyPost_ret ?_ hd hR
 have h2' : a.tmps[p]?.getD undef = .pointer (some ⟨b, 0, none⟩) := by rw [← h2]; simp
 simp [results, hf, h2', asAddr, hl]
theorem bits_or {m : Nat} (h : m < 32) : bits .or .i64 (m : Int) 1 = ((m ||| 1 : Nat) : Int) := by
 have : ∀ a : Fin 32, bits .or .i64 ((a.val : Nat) : Int) 1 = ((a.val ||| 1 : Nat) : Int) := by decide +kernel
 exact this ⟨m, h⟩
theorem tright_of {n : ByteArray} {l m left : Nat} {ts : List Tok} (h : RightN n l m left ts) (hl : left ≤ 4) : rightT n.data.toList (l : Int) (m : Int) = true := right_nat h.1 (Nat.le_trans h.2.2.1 hl) h.2.2.2.1
theorem must_of {n : ByteArray} {l m left : Nat} {ts : List Tok} (h : RightN n l m left ts) (hl : left ≤ 4) : mustV n l m = .agg #[.string n, .int .i64 l, .int .i64 ((m ||| 1 : Nat) : Int)] := by
 unfold mustV
 rw [if_pos (tright_of h hl), bits_or]
 have := h.2.2.2.1
 have hp : 2 ^ (l + 1) ≤ 2 ^ 5 := Nat.pow_le_pow_right (by decide) (by have := h.2.2.1; omega)
 omega
theorem list_of {n : ByteArray} {l m left : Nat} {ts : List Tok} (h : RightN n l m left ts) (hl : left ≤ 3) : listV n l m = yesT n ((l + 1 : Nat) : Int) ((2 * m : Nat) : Int) := by
 unfold listV
 rw [if_pos ⟨tright_of h (by omega), by have := h.2.2.1; omega⟩]
 have e1 : (l : Int) + 1 = ((l + 1 : Nat) : Int) := by omega
 have e2 : (m : Int) * 2 = ((2 * m : Nat) : Int) := by omega
 rw [e1, e2]
def TypC (left : Nat) (ts : List Tok) : Prop := ∀ (r d : Nat) (w : World), Rd w r ts d → Calls Tryz.prog 128 #[.pointer (some ⟨r, 0, none⟩), .int .i64 ((4 - left : Nat) : Int)] w fun e w' => match typeR left ts with
    | .ok ((n, l, m), ts') => e = .returned (.agg #[.string n, .int .i64 (l : Int), .int .i64 (m : Int)]) ∧ Rd w' r ts' d ∧ Moved r w w'
    | .error x => e = PanicE x ∧ Moved r w w'
set_option maxRecDepth 100000 in
set_option maxHeartbeats 4000000 in
theorem typ_name (left : Nat) (hleft : left ≤ 4) (ts : List Tok) (hN : NamesT ts) (hb : atB 1 oB ts = false) : TypC left ts := by
 intro r d w h
 have K0 := Hd (TwoT.start w r (.string ⟨#[]⟩) (.int .i64 0) (.int .i64 0) (.string ⟨#[]⟩) (.int .i64 0) (.int .i64 0) h.lt)
 have R0 := Hd ((h.below (blw w (.cells #[.string ⟨#[]⟩, .int .i64 0, .int .i64 0] 39))).below (blw _ (.cells #[.string ⟨#[]⟩, .int .i64 0, .int .i64 0] 39)))
 have HA := Hd (at_any r ts d 1 oB _ R0.out)
 have HK := Hd (skip_any r ts d 1 oB _ R0.out)
 have hst : skipT 1 oB ts = ts := by unfold skipT; rw [hb]; rfl
 rw [hb] at HA HK
 rw [hst] at HK
 rw [typeR_name hb]
 have hT := type_right left ts hN
 rw [typeR_name hb] at hT
 cases hn : nameR ts with
 | none =>
   have HP := fun wx (hx : Rd wx r ts d) => Hd (by have := pname_any r ts d wx hx; rw [hn] at this; exact this)
   clear hT hst hb h hN
   show Calls _ _ _ _ fun e w' => e = PanicE 2 ∧ Moved r w w'
   go_enter Tryz.func128, Tryz.ntmps128
   go_wp2_with fail
   refine HA.out.mono ?_
   rintro e w1 ⟨rfl, rfl⟩
   go_wp2_with fail
   refine HK.out.mono ?_
   rintro e w2 ⟨rfl, r2, m2⟩
   have K2 := Hd (K0.out.next m2)
   have R2 := Hd r2
   clear r2 m2
   go_wp2_with fail
   refine (HP _ R2.out).out.mono ?_
   rintro e w3 ⟨rfl, m3⟩
   exact ⟨rfl, rfl, K2.out.2.2.1.trans m3⟩
 | some p =>
   obtain ⟨n, ts1⟩ := p
   have HP := fun wx (hx : Rd wx r ts d) => Hd (by have := pname_any r ts d wx hx; rw [hn] at this; exact this)
   obtain ⟨g1, g2, g3⟩ := nameR_good hN hn
   have RN := Hd (show RightN n 0 0 left ts1 from ⟨g1, g2, Nat.zero_le _, by decide, g3⟩)
   clear hT hst hb h hN hn g1 g2 g3
   obtain ⟨RES, hRES⟩ : ∃ RES, bangR n 0 0 ts1 = RES := ⟨_, rfl⟩
   show Calls _ _ _ _ fun e w' => match (.ok (bangR n 0 0 ts1) : Except Int ((ByteArray × Nat × Nat) × List Tok)) with | .ok ((n, l, m), ts') => e = .returned (.agg #[.string n, .int .i64 (l : Int), .int .i64 (m : Int)]) ∧ Rd w' r ts' d ∧ Moved r w w' | .error x => e = PanicE x ∧ Moved r w w'
   have hR : Hid (bangR n 0 0 ts1 = RES) := Hd hRES
   rw [hRES]
   have hR := Hd hRES.symm
   clear hRES
   go_enter Tryz.func128, Tryz.ntmps128
   go_wp2_with fail
   refine HA.out.mono ?_
   rintro e w1 ⟨rfl, rfl⟩
   go_wp2_with fail
   refine HK.out.mono ?_
   rintro e w2 ⟨rfl, r2, m2⟩
   have K2 := Hd (K0.out.next m2)
   have R2 := Hd r2
   clear r2 m2
   go_wp2_with fail
   refine (HP _ R2.out).out.mono ?_
   rintro e w3 ⟨rfl, r3, m3⟩
   have K3 := Hd (K2.out.next m3)
   have R3 := Hd r3
   clear r3 m3 HP HA HK K0 R0 K2 R2
   obtain ⟨k0, k1, k2, z0, z1, z2⟩ := ty_cells K3.out.2.1
   go_wp2_with fail
   clear k0 k1 k2 z0 z1 z2
   have K4 := Hd (K3.out.setn (.string n))
   have R4 := Hd (R3.out.set (b := w.heap.size + 1) (i := 0) (v := .string n) (Nat.lt_succ_of_lt K3.out.2.2.2))
   clear K3 R3
   have HS := Hd (skip_any r ts1 d 1 bB _ R4.out)
   have hbb : Hid (bangR n 0 0 ts1 = if atB 1 bB ts1 = true then ((n, 0, 0 ||| 1), ts1.tail) else ((n, 0, 0), ts1)) := Hd rfl
   have hst : Hid (skipT 1 bB ts1 = if atB 1 bB ts1 = true then ts1.tail else ts1) := Hd rfl
   generalize atB 1 bB ts1 = q at *
   obtain ⟨k0, k1, k2, z0, z1, z2⟩ := ty_cells K4.out.2.1
   obtain ⟨j0, j1, j2, y0, y1, y2⟩ := ty_cells K4.out.1
   clear k0 k1 k2 z0 z1 z2 j0 j1 j2 y0 y1 y2
   go_wp2_with fail
   cases q with
   | false =>
     refine HS.out.mono ?_
     rintro e wa ⟨rfl, ra, ma⟩
     rw [hst.out] at ra
     have KA := Hd (K4.out.next ma)
     have RA := Hd ra
     obtain ⟨k0, k1, k2, z0, z1, z2⟩ := ty_cells KA.out.2.1
     obtain ⟨j0, j1, j2, y0, y1, y2⟩ := ty_cells KA.out.1
     clear ra ma HS
     go_wp2_with fail
     have KB := Hd (KA.out.set1 (.string n) (.int .i64 (0 : Nat)) (.int .i64 (0 : Nat)))
     refine ret_tp rfl rfl rfl KB.out.1 ?_
     rw [hR.out, hbb.out]
     exact ⟨rfl, ((RA.out.set (Nat.lt_of_lt_of_le KA.out.2.2.2 (Nat.le_refl _))).set (Nat.lt_of_lt_of_le KA.out.2.2.2 (Nat.le_refl _))).set (Nat.lt_of_lt_of_le KA.out.2.2.2 (Nat.le_refl _)), KB.out.2.2.1⟩
   | true =>
     refine HS.out.mono ?_
     rintro e wa ⟨rfl, ra, ma⟩
     rw [hst.out] at ra
     have KA := Hd (K4.out.next ma)
     have RA := Hd ra
     have HM := fun wx => Hd (by have h := must_any n (0 : Nat) (0 : Nat) wx RN.out.2.1; rw [must_of RN.out hleft] at h; exact h)
     obtain ⟨k0, k1, k2, z0, z1, z2⟩ := ty_cells KA.out.2.1
     clear ra ma HS
     go_wp2_with fail
     refine (HM _).out.mono ?_
     rintro e wb ⟨rfl, hb⟩
     have KB := Hd (KA.out.next (Moved.of_below hb))
     have RB := Hd (RA.out.below hb)
     clear hb k0 k1 k2 z0 z1 z2 HM
     obtain ⟨k0, k1, k2, z0, z1, z2⟩ := ty_cells KB.out.2.1
     obtain ⟨j0, j1, j2, y0, y1, y2⟩ := ty_cells KB.out.1
     go_wp2_with fail
     have KC := Hd ((KB.out.set2 (.string n) (.int .i64 (0 : Nat)) (.int .i64 ((0 ||| 1 : Nat) : Int))).set1 (.string n) (.int .i64 (0 : Nat)) (.int .i64 ((0 ||| 1 : Nat) : Int)))
     refine ret_tp rfl rfl rfl KC.out.1 ?_
     rw [hR.out, hbb.out]
     have hlt := KB.out.2.2.2
     exact ⟨rfl, (((((RB.out.set (by omega)).set (by omega)).set (by omega)).set (by omega)).set (by omega)).set (by omega), KC.out.2.2.1⟩
mutual
def VP (w : World) (P : Nat → Prop) : VT → Value → Value → Value → Value → Value → Prop
 | .mk k n s l m, c0, c1, c2, c3, c4 => c0 = .int .i64 k ∧ c1 = .int .i64 n ∧ c2 = .string s ∧ s.size ≤ 9223372036854775807 ∧ (∃ A c, c3 = .slice A l.len c ∧ l.len ≤ 9223372036854775807 ∧ LP w P l A 0) ∧ ∃ A c, c4 = .slice A m.len c ∧ m.len ≤ 9223372036854775807 ∧ MP w P m A 0
def LP (w : World) (P : Nat → Prop) : VL → Option Addr → Nat → Prop
 | .nil, _, _ => True
 | .cons v t, A, j => (∃ b o c0 c1 c2 c3 c4, A = some ⟨b, o, none⟩ ∧ P b ∧ Five w b (o + j * 5) c0 c1 c2 c3 c4 ∧ VP w P v c0 c1 c2 c3 c4) ∧ LP w P t A (j + 1)
def MP (w : World) (P : Nat → Prop) : VM → Option Addr → Nat → Prop
 | .nil, _, _ => True
 | .cons nm v t, A, j => (∃ b o c0 c1 c2 c3 c4, A = some ⟨b, o, none⟩ ∧ P b ∧ w.cell? ⟨b, o + j * 6, none⟩ = some (.string nm) ∧ nm.size ≤ 9223372036854775807 ∧ Five w b (o + j * 6 + 1) c0 c1 c2 c3 c4 ∧ VP w P v c0 c1 c2 c3 c4) ∧ MP w P t A (j + 1)
end
theorem Five.heap {w w' : World} {b o : Nat} {c0 c1 c2 c3 c4 : Value} (h : Five w b o c0 c1 c2 c3 c4) (hb : w'.heap[b]? = w.heap[b]?) : Five w' b o c0 c1 c2 c3 c4 :=
 ⟨(World.cell?_of_block (a := ⟨b, _, none⟩) hb).trans h.1, (World.cell?_of_block (a := ⟨b, _, none⟩) hb).trans h.2.1, (World.cell?_of_block (a := ⟨b, _, none⟩) hb).trans h.2.2.1, (World.cell?_of_block (a := ⟨b, _, none⟩) hb).trans h.2.2.2.1, (World.cell?_of_block (a := ⟨b, _, none⟩) hb).trans h.2.2.2.2⟩
mutual
theorem VP.keep {w w' : World} {P P' : Nat → Prop} (hP : ∀ b, P b → P' b ∧ w'.heap[b]? = w.heap[b]?) : ∀ (v : VT) (c0 c1 c2 c3 c4 : Value), VP w P v c0 c1 c2 c3 c4 → VP w' P' v c0 c1 c2 c3 c4
 | .mk k n s l m, c0, c1, c2, c3, c4, h => by
   unfold VP at h ⊢
   obtain ⟨h0, h1, h2, hs, ⟨A, c, h3, g3, h4⟩, A', c', h5, g5, h6⟩ := h
   exact ⟨h0, h1, h2, hs, ⟨A, c, h3, g3, LP.keep hP l A 0 h4⟩, A', c', h5, g5, MP.keep hP m A' 0 h6⟩
theorem LP.keep {w w' : World} {P P' : Nat → Prop} (hP : ∀ b, P b → P' b ∧ w'.heap[b]? = w.heap[b]?) : ∀ (l : VL) (A : Option Addr) (j : Nat), LP w P l A j → LP w' P' l A j
 | .nil, _, _, _ => by unfold LP; trivial
 | .cons v t, A, j, h => by
   unfold LP at h ⊢
   obtain ⟨⟨b, o, c0, c1, c2, c3, c4, hA, hlt, hf, hv⟩, ht⟩ := h
   exact ⟨⟨b, o, c0, c1, c2, c3, c4, hA, (hP b hlt).1, hf.heap (hP b hlt).2, VP.keep hP v _ _ _ _ _ hv⟩, LP.keep hP t A (j + 1) ht⟩
theorem MP.keep {w w' : World} {P P' : Nat → Prop} (hP : ∀ b, P b → P' b ∧ w'.heap[b]? = w.heap[b]?) : ∀ (l : VM) (A : Option Addr) (j : Nat), MP w P l A j → MP w' P' l A j
 | .nil, _, _, _ => by unfold MP; trivial
 | .cons nm v t, A, j, h => by
   unfold MP at h ⊢
   obtain ⟨⟨b, o, c0, c1, c2, c3, c4, hA, hlt, hn, hz, hf, hv⟩, ht⟩ := h
   exact ⟨⟨b, o, c0, c1, c2, c3, c4, hA, (hP b hlt).1, (World.cell?_of_block (a := ⟨b, _, none⟩) (hP b hlt).2).trans hn, hz, hf.heap (hP b hlt).2, VP.keep hP v _ _ _ _ _ hv⟩, MP.keep hP t A (j + 1) ht⟩
end
mutual
theorem VP.at {w : World} {B : Nat} {P : Nat → Prop} (hP : ∀ b, P b → b < B) : ∀ (v : VT) (c0 c1 c2 c3 c4 : Value), VP w P v c0 c1 c2 c3 c4 → VAt w B v c0 c1 c2 c3 c4
 | .mk k n s l m, c0, c1, c2, c3, c4, h => by
   unfold VP at h
   unfold VAt
   obtain ⟨h0, h1, h2, hs, ⟨A, c, h3, g3, h4⟩, A', c', h5, g5, h6⟩ := h
   exact ⟨h0, h1, h2, hs, ⟨A, c, h3, g3, LP.at hP l A 0 h4⟩, A', c', h5, g5, MP.at hP m A' 0 h6⟩
theorem LP.at {w : World} {B : Nat} {P : Nat → Prop} (hP : ∀ b, P b → b < B) : ∀ (l : VL) (A : Option Addr) (j : Nat), LP w P l A j → LAt w B l A j
 | .nil, _, _, _ => by unfold LAt; trivial
 | .cons v t, A, j, h => by
   unfold LP at h
   unfold LAt
   obtain ⟨⟨b, o, c0, c1, c2, c3, c4, hA, hlt, hf, hv⟩, ht⟩ := h
   exact ⟨⟨b, o, c0, c1, c2, c3, c4, hA, hP b hlt, hf, VP.at hP v _ _ _ _ _ hv⟩, LP.at hP t A (j + 1) ht⟩
theorem MP.at {w : World} {B : Nat} {P : Nat → Prop} (hP : ∀ b, P b → b < B) : ∀ (l : VM) (A : Option Addr) (j : Nat), MP w P l A j → MAt w B l A j
 | .nil, _, _, _ => by unfold MAt; trivial
 | .cons nm v t, A, j, h => by
   unfold MP at h
   unfold MAt
   obtain ⟨⟨b, o, c0, c1, c2, c3, c4, hA, hlt, hn, hz, hf, hv⟩, ht⟩ := h
   exact ⟨⟨b, o, c0, c1, c2, c3, c4, hA, hP b hlt, hn, hz, hf, VP.at hP v _ _ _ _ _ hv⟩, MP.at hP t A (j + 1) ht⟩
end
def ValsL (w : World) (P : Nat → Prop) : VL → List Value → Prop
 | .nil, xs => xs = []
 | .cons v t, xs => ∃ c0 c1 c2 c3 c4 ys, xs = c0 :: c1 :: c2 :: c3 :: c4 :: ys ∧ VP w P v c0 c1 c2 c3 c4 ∧ ValsL w P t ys
def ValsM (w : World) (P : Nat → Prop) : VM → List Value → Prop
 | .nil, xs => xs = []
 | .cons nm v t, xs => ∃ c0 c1 c2 c3 c4 ys, xs = .string nm :: c0 :: c1 :: c2 :: c3 :: c4 :: ys ∧ nm.size ≤ 9223372036854775807 ∧ VP w P v c0 c1 c2 c3 c4 ∧ ValsM w P t ys
def VL.snoc : VL → VT → VL
 | .nil, v => .cons v .nil
 | .cons u t, v => .cons u (t.snoc v)
def VM.snoc : VM → ByteArray → VT → VM
 | .nil, nm, v => .cons nm v .nil
 | .cons x u t, nm, v => .cons x u (t.snoc nm v)
def VL.take : VL → Nat → VL
 | _, 0 => .nil
 | .nil, _ + 1 => .nil
 | .cons v t, j + 1 => .cons v (t.take j)
def VM.take : VM → Nat → VM
 | _, 0 => .nil
 | .nil, _ + 1 => .nil
 | .cons nm v t, j + 1 => .cons nm v (t.take j)
theorem VL.take_zero (l : VL) : l.take 0 = .nil := by cases l <;> rfl
theorem VM.take_zero (l : VM) : l.take 0 = .nil := by cases l <;> rfl
theorem VL.take_all : ∀ l : VL, l.take l.len = l
 | .nil => rfl
 | .cons v t => by rw [VL.len, VL.take, VL.take_all t]
theorem VM.take_all : ∀ l : VM, l.take l.len = l
 | .nil => rfl
 | .cons nm v t => by rw [VM.len, VM.take, VM.take_all t]
theorem VL.take_next : ∀ {l : VL} {j : Nat} {v : VT}, l.get j = some v → l.take (j + 1) = (l.take j).snoc v
 | .nil, _, _, h => by simp [VL.get] at h
 | .cons u t, 0, v, h => by
   have : u = v := by simpa [VL.get] using h
   subst this
   show VL.cons u (t.take 0) = VL.cons u .nil
   rw [VL.take_zero]
 | .cons u t, j + 1, v, h => by
   have := VL.take_next (l := t) (j := j) (v := v) h
   rw [VL.take, this, VL.take, VL.snoc]
theorem VM.take_next : ∀ {l : VM} {j : Nat} {nm : ByteArray} {v : VT}, l.get j = some (nm, v) → l.take (j + 1) = (l.take j).snoc nm v
 | .nil, _, _, _, h => by simp [VM.get] at h
 | .cons x u t, 0, nm, v, h => by
   have : x = nm ∧ u = v := by simpa [VM.get] using h
   obtain ⟨rfl, rfl⟩ := this
   show VM.cons x u (t.take 0) = VM.cons x u .nil
   rw [VM.take_zero]
 | .cons x u t, j + 1, nm, v, h => by
   have := VM.take_next (l := t) (j := j) (nm := nm) (v := v) h
   rw [VM.take, this, VM.take, VM.snoc]
theorem ValsL.keep {w w' : World} {P P' : Nat → Prop} (hP : ∀ b, P b → P' b ∧ w'.heap[b]? = w.heap[b]?) : ∀ {l : VL} {xs : List Value}, ValsL w P l xs → ValsL w' P' l xs
 | .nil, _, h => h
 | .cons v t, xs, h => by
   obtain ⟨c0, c1, c2, c3, c4, ys, e, hv, ht⟩ := h
   exact ⟨c0, c1, c2, c3, c4, ys, e, VP.keep hP _ _ _ _ _ _ hv, ValsL.keep hP ht⟩
theorem ValsM.keep {w w' : World} {P P' : Nat → Prop} (hP : ∀ b, P b → P' b ∧ w'.heap[b]? = w.heap[b]?) : ∀ {l : VM} {xs : List Value}, ValsM w P l xs → ValsM w' P' l xs
 | .nil, _, h => h
 | .cons nm v t, xs, h => by
   obtain ⟨c0, c1, c2, c3, c4, ys, e, hn, hv, ht⟩ := h
   exact ⟨c0, c1, c2, c3, c4, ys, e, hn, VP.keep hP _ _ _ _ _ _ hv, ValsM.keep hP ht⟩
theorem ValsL.snoc {w : World} {P : Nat → Prop} {v : VT} {d0 d1 d2 d3 d4 : Value} (hd : VP w P v d0 d1 d2 d3 d4) : ∀ {l : VL} {xs : List Value}, ValsL w P l xs → ValsL w P (l.snoc v) (xs ++ [d0, d1, d2, d3, d4])
 | .nil, xs, h => by
   have : xs = [] := h
   subst this
   exact ⟨d0, d1, d2, d3, d4, [], rfl, hd, rfl⟩
 | .cons u t, xs, h => by
   obtain ⟨c0, c1, c2, c3, c4, ys, rfl, hv, ht⟩ := h
   exact ⟨c0, c1, c2, c3, c4, ys ++ [d0, d1, d2, d3, d4], by simp, hv, ValsL.snoc hd ht⟩
theorem ValsM.snoc {w : World} {P : Nat → Prop} {nm : ByteArray} {v : VT} {d0 d1 d2 d3 d4 : Value} (hn : nm.size ≤ 9223372036854775807) (hd : VP w P v d0 d1 d2 d3 d4) : ∀ {l : VM} {xs : List Value}, ValsM w P l xs → ValsM w P (l.snoc nm v) (xs ++ [.string nm, d0, d1, d2, d3, d4])
 | .nil, xs, h => by
   have : xs = [] := h
   subst this
   exact ⟨d0, d1, d2, d3, d4, [], rfl, hn, hd, rfl⟩
 | .cons x u t, xs, h => by
   obtain ⟨c0, c1, c2, c3, c4, ys, rfl, hx, hv, ht⟩ := h
   exact ⟨c0, c1, c2, c3, c4, ys ++ [.string nm, d0, d1, d2, d3, d4], by simp, hx, hv, ValsM.snoc hn hd ht⟩
theorem LP.of_cells {w : World} {P : Nat → Prop} {g : Nat} (hg : P g) : ∀ {l : VL} {xs : List Value} (i : Nat), ValsL w P l xs → (∀ j u, xs[j]? = some u → w.cell? ⟨g, i * 5 + j, none⟩ = some u) → LP w P l (some ⟨g, 0, none⟩) i
 | .nil, _, _, _, _ => by unfold LP; trivial
 | .cons v t, xs, i, h, hc => by
   obtain ⟨c0, c1, c2, c3, c4, ys, rfl, hv, ht⟩ := h
   unfold LP
   refine ⟨⟨g, 0, c0, c1, c2, c3, c4, rfl, hg, ?_, hv⟩, LP.of_cells hg (i + 1) ht (fun j u hj => ?_)⟩
   · rw [Nat.zero_add]
     exact ⟨hc 0 c0 rfl, hc 1 c1 rfl, hc 2 c2 rfl, hc 3 c3 rfl, hc 4 c4 rfl⟩
   · have := hc (j + 5) u (by simpa using hj)
     rwa [show i * 5 + (j + 5) = (i + 1) * 5 + j by omega] at this
theorem MP.of_cells {w : World} {P : Nat → Prop} {g : Nat} (hg : P g) : ∀ {l : VM} {xs : List Value} (i : Nat), ValsM w P l xs → (∀ j u, xs[j]? = some u → w.cell? ⟨g, i * 6 + j, none⟩ = some u) → MP w P l (some ⟨g, 0, none⟩) i
 | .nil, _, _, _, _ => by unfold MP; trivial
 | .cons nm v t, xs, i, h, hc => by
   obtain ⟨c0, c1, c2, c3, c4, ys, rfl, hn, hv, ht⟩ := h
   unfold MP
   refine ⟨⟨g, 0, c0, c1, c2, c3, c4, rfl, hg, ?_, hn, ?_, hv⟩, MP.of_cells hg (i + 1) ht (fun j u hj => ?_)⟩
   · rw [Nat.zero_add]; exact hc 0 _ rfl
   · rw [Nat.zero_add]
     exact ⟨hc 1 c0 rfl, hc 2 c1 rfl, hc 3 c2 rfl, hc 4 c3 rfl, hc 5 c4 rfl⟩
   · have := hc (j + 6) u (by simpa using hj)
     rwa [show i * 6 + (j + 6) = (i + 1) * 6 + j by omega] at this
theorem row_list {w : World} {base : Nat} {V : Value} {P : Nat → Prop} {l : VL} {xs : List Value} (h : w.ownsRow base 35 5 V l.len xs) (hv : ValsL w P l xs) :
   ∃ A c, V = .slice A l.len c ∧ LP w (fun b => P b ∨ V.ownBlock = some b) l A 0 := by
 rcases h.2 with ⟨hV, hn⟩ | ⟨g, c, cur, hV, _⟩
 · refine ⟨none, 0, by rw [hV, hn], ?_⟩
   cases l with
   | nil => unfold LP; trivial
   | cons v t => simp [VL.len] at hn
 · have hg : V.ownBlock = some g := by rw [hV]; rfl
   refine ⟨some ⟨g, 0, none⟩, c, hV, LP.of_cells (.inr hg) 0 (hv.keep (fun b hb => ⟨.inl hb, rfl⟩)) (fun j u hj => ?_)⟩
   have := h.cells hg j u hj
   rwa [add_at, Nat.zero_add, show j = 0 * 5 + j by omega] at this
theorem row_members {w : World} {base : Nat} {V : Value} {P : Nat → Prop} {l : VM} {xs : List Value} (h : w.ownsRow base 98 6 V l.len xs) (hv : ValsM w P l xs) :
   ∃ A c, V = .slice A l.len c ∧ MP w (fun b => P b ∨ V.ownBlock = some b) l A 0 := by
 rcases h.2 with ⟨hV, hn⟩ | ⟨g, c, cur, hV, _⟩
 · refine ⟨none, 0, by rw [hV, hn], ?_⟩
   cases l with
   | nil => unfold MP; trivial
   | cons nm v t => simp [VM.len] at hn
 · have hg : V.ownBlock = some g := by rw [hV]; rfl
   refine ⟨some ⟨g, 0, none⟩, c, hV, MP.of_cells (.inr hg) 0 (hv.keep (fun b hb => ⟨.inl hb, rfl⟩)) (fun j u hj => ?_)⟩
   have := h.cells hg j u hj
   rwa [add_at, Nat.zero_add, show j = 0 * 6 + j by omega] at this
theorem info_val : (Tryz.prog.info? 35).map (fun i => (i.zero, i.size, i.bytes)) = some (some (.agg #[.int .i64 0, .int .i64 0, .string ⟨#[]⟩, .slice none 0 0, .slice none 0 0]), 5, 80) := by kernel_rfl
theorem info_mem : (Tryz.prog.info? 98).map (fun i => (i.zero, i.size, i.bytes)) = some (some (.agg #[.string ⟨#[]⟩, .int .i64 0, .int .i64 0, .string ⟨#[]⟩, .slice none 0 0, .slice none 0 0]), 6, 96) := by kernel_rfl
theorem sizeV_pos : ∀ v : VT, 1 ≤ sizeV v
 | .mk _ _ _ _ _ => by rw [sizeV]; omega
theorem lenM_le : ∀ l : VM, l.len ≤ sizeM l
 | .nil => Nat.le_refl _
 | .cons nm v t => by rw [VM.len, sizeM]; have := lenM_le t; have := sizeV_pos v; omega
mutual
def SlimV : VT → Prop
 | .mk _ _ _ l m => l.len * 80 ≤ 140737488355328 ∧ m.len * 96 ≤ 140737488355328 ∧ SlimL l ∧ SlimM m
def SlimL : VL → Prop
 | .nil => True
 | .cons v t => SlimV v ∧ SlimL t
def SlimM : VM → Prop
 | .nil => True
 | .cons _ v t => SlimV v ∧ SlimM t
end
def Fresh (w w' : World) (b : Nat) : Prop := w.heap.size ≤ b ∧ b < w'.heap.size
def RT (base : Nat) (W : World) (V : Value) (q : Nat) (l : VL) : Prop := ∃ xs P, W.ownsRow base 35 5 V q xs ∧ ValsL W P l xs ∧ ∀ b, P b → base ≤ b ∧ b < W.heap.size ∧ V.ownBlock ≠ some b
def RM (base : Nat) (W : World) (V : Value) (q : Nat) (l : VM) : Prop := ∃ xs P, W.ownsRow base 98 6 V q xs ∧ ValsM W P l xs ∧ ∀ b, P b → base ≤ b ∧ b < W.heap.size ∧ V.ownBlock ≠ some b
theorem RT.start (base : Nat) (W : World) : RT base W (.slice none 0 0) 0 .nil := ⟨[], fun _ => False, World.ownsRow_nil _ _ _ _, rfl, fun _ h => h.elim⟩
theorem RM.start (base : Nat) (W : World) : RM base W (.slice none 0 0) 0 .nil := ⟨[], fun _ => False, World.ownsRow_nil _ _ _ _, rfl, fun _ h => h.elim⟩
theorem own_low {B : Nat} {e : TypeId} {k : Nat} {v : Value} {n : Nat} {xs : List Value} {w w' : World} (h : w.ownsRow B e k v n xs) (hb : Below w.heap.size w w') : w'.ownsRow B e k v n xs :=
 h.kept (row := none) ⟨hb.os, hb.tape, hb.output, hb.size, fun j hj _ => hb.block j hj⟩ (Classical.em _)
theorem step_blocks {wr w2 w4 : World} {V : Value} {g : Nat} {o : Obj} {P : Nat → Prop} {base : Nat} (hbase : base ≤ wr.heap.size) (hV : ∀ k, V.ownBlock = some k → k < wr.heap.size) (hP : ∀ b, P b → base ≤ b ∧ b < wr.heap.size ∧ V.ownBlock ≠ some b)
   (hb : Below wr.heap.size wr w2) (hg : (w2.alloc o).grownBy w4 V.ownBlock) (hat : V.ownBlock = some g ∨ g = (w2.alloc o).heap.size) :
   (∀ b, P b → (P b ∨ Fresh wr w2 b) ∧ w4.heap[b]? = wr.heap[b]?) ∧ (∀ b, Fresh wr w2 b → (P b ∨ Fresh wr w2 b) ∧ w4.heap[b]? = w2.heap[b]?) ∧ (∀ b, P b ∨ Fresh wr w2 b → base ≤ b ∧ b < w4.heap.size ∧ some g ≠ some b) := by
 have hs2 := hb.size
 have hs4 := hg.size
 have ha : (w2.alloc o).heap.size = w2.heap.size + 1 := by simp
 have hn : ∀ b, Fresh wr w2 b → V.ownBlock ≠ some b := fun b h e => by have := hV b e; have := h.1; omega
 refine ⟨fun b h => ⟨.inl h, ?_⟩, fun b h => ⟨.inr h, ?_⟩, fun b h => ?_⟩
 · obtain ⟨_, h1, h2⟩ := hP b h
   rw [hg.block b (by omega) (fun e => h2 e.symm), Below.heap_alloc _ _ _ (by omega), hb.block b h1]
 · have h1 := h.2
   rw [hg.block b (by omega) (fun e => hn b h e.symm), Below.heap_alloc _ _ _ h1]
 · have hlt : base ≤ b ∧ b < w2.heap.size ∧ V.ownBlock ≠ some b := by
     rcases h with h | h
     · obtain ⟨h0, h1, h2⟩ := hP b h
       exact ⟨h0, by omega, h2⟩
     · exact ⟨Nat.le_trans hbase h.1, h.2, hn b h⟩
   refine ⟨hlt.1, by omega, fun e => ?_⟩
   rcases hat with hat | hat
   · exact hlt.2.2 (hat.trans e)
   · have : g = b := by injection e
     omega
theorem shape_own {w : World} {base sz : Nat} {e : TypeId} {v : Value} {n : Nat} {xs : List Value} (h : w.ownsRow base e sz v n xs) : ∃ A cap, v = .slice A n cap := by
 rcases h.2 with ⟨hv, hn⟩ | ⟨g, cap, cur, hv, _⟩
 · exact ⟨none, 0, by rw [hv, hn]⟩
 · exact ⟨_, _, hv⟩
theorem five_new (w : World) (a0 a1 a2 a3 a4 : Value) (t : TypeId) {n : Nat} (hn : n = w.heap.size) : ∀ (j : Nat) u, [a0, a1, a2, a3, a4][j]? = some u → (w.alloc (.cells #[a0, a1, a2, a3, a4] t)).cell? ((⟨n, 0, none⟩ : Addr).add j) = some u := by
 subst hn
 intro j u hu
 rw [add_at, Nat.zero_add]
 match j, hu with
 | 0, hu => cases hu; rw [World.cell?_alloc_at _ _ _ _ rfl]; rfl
 | 1, hu => cases hu; rw [World.cell?_alloc_at _ _ _ _ rfl]; rfl
 | 2, hu => cases hu; rw [World.cell?_alloc_at _ _ _ _ rfl]; rfl
 | 3, hu => cases hu; rw [World.cell?_alloc_at _ _ _ _ rfl]; rfl
 | 4, hu => cases hu; rw [World.cell?_alloc_at _ _ _ _ rfl]; rfl
theorem six_new (w : World) (a a0 a1 a2 a3 a4 : Value) (t : TypeId) {n : Nat} (hn : n = w.heap.size) : ∀ (j : Nat) u, [a, a0, a1, a2, a3, a4][j]? = some u → (w.alloc (.cells #[a, a0, a1, a2, a3, a4] t)).cell? ((⟨n, 0, none⟩ : Addr).add j) = some u := by
 subst hn
 intro j u hu
 rw [add_at, Nat.zero_add]
 match j, hu with
 | 0, hu => cases hu; rw [World.cell?_alloc_at _ _ _ _ rfl]; rfl
 | 1, hu => cases hu; rw [World.cell?_alloc_at _ _ _ _ rfl]; rfl
 | 2, hu => cases hu; rw [World.cell?_alloc_at _ _ _ _ rfl]; rfl
 | 3, hu => cases hu; rw [World.cell?_alloc_at _ _ _ _ rfl]; rfl
 | 4, hu => cases hu; rw [World.cell?_alloc_at _ _ _ _ rfl]; rfl
 | 5, hu => cases hu; rw [World.cell?_alloc_at _ _ _ _ rfl]; rfl
def omB : ByteArray := ⟨#[123]⟩
def cmB : ByteArray := ⟨#[125]⟩
def dolB : ByteArray := ⟨#[36]⟩
def colB : ByteArray := ⟨#[58]⟩
def oneR : List Tok → Except Int (VT × List Tok)
 | [] => .error 2
 | t :: r =>
   match singleR t with
   | none => .error 2
   | some (k, n, s) => .ok (.mk k n s .nil .nil, r)
mutual
def valR : Nat → Bool → Nat → List Tok → Except Int (VT × List Tok)
 | 0, _, _, _ => .error 2
 | f + 1, fx, d, ts =>
   if atB 1 oB ts = true then
    if d = 16 then .error 4 else
     match itemsR f fx (d + 1) .nil ts.tail with
     | .error e => .error e
     | .ok (l, r) => .ok (.mk 6 0 ⟨#[]⟩ l .nil, r)
   else if atB 1 omB ts = true then
    if d = 16 then .error 4 else
     match memsR f fx (d + 1) .nil ts.tail with
     | .error e => .error e
     | .ok (m, r) => .ok (.mk 7 0 ⟨#[]⟩ .nil m, r)
   else if (!fx && atB 1 dolB ts) = true then
    match nameR ts.tail with
    | none => .error 2
    | some (s, r) => .ok (.mk 8 0 s .nil .nil, r)
   else oneR ts
def itemsR : Nat → Bool → Nat → VL → List Tok → Except Int (VL × List Tok)
 | 0, _, _, _, _ => .error 2
 | f + 1, fx, d, acc, ts =>
   if atB 1 cB ts = true then .ok (acc, ts.tail) else
    match valR f fx d ts with
    | .error e => .error e
    | .ok (v, r) => itemsR f fx d (acc.snoc v) r
def memsR : Nat → Bool → Nat → VM → List Tok → Except Int (VM × List Tok)
 | 0, _, _, _, _ => .error 2
 | f + 1, fx, d, acc, ts =>
   if atB 1 cmB ts = true then .ok (acc, ts.tail) else
    match memR f fx d ts with
    | .error e => .error e
    | .ok ((nm, v), r) => memsR f fx d (acc.snoc nm v) r
def memR : Nat → Bool → Nat → List Tok → Except Int ((ByteArray × VT) × List Tok)
 | 0, _, _, _ => .error 2
 | f + 1, fx, d, ts =>
   match nameR ts with
   | none => .error 2
   | some (nm, r) =>
     if atB 1 colB r = true then
      match valR f fx d r.tail with
      | .error e => .error e
      | .ok (v, r2) => .ok ((nm, v), r2)
     else .error 2
end
theorem at_len {k : Int} {s : ByteArray} {ts : List Tok} (h : atB k s ts = true) : ts.tail.length + 1 = ts.length := by
 cases ts with
 | nil => cases h
 | cons t ts => rfl
theorem name_len {ts r : List Tok} {s : ByteArray} (h : nameR ts = some (s, r)) : r.length + 1 = ts.length := by
 cases ts with
 | nil => cases h
 | cons t ts =>
   change (if t.1 = 2 then some (t.2, ts) else none) = some (s, r) at h
   split at h
   · have := (Prod.mk.inj (Option.some.inj h)).2
     subst this; rfl
   · cases h
theorem read_less : ∀ f : Nat,
   (∀ fx d ts v r, valR f fx d ts = .ok (v, r) → r.length + 1 ≤ ts.length) ∧
   (∀ fx d acc ts l r, itemsR f fx d acc ts = .ok (l, r) → r.length + 1 ≤ ts.length) ∧
   (∀ fx d acc ts l r, memsR f fx d acc ts = .ok (l, r) → r.length + 1 ≤ ts.length) ∧
   (∀ fx d ts p r, memR f fx d ts = .ok (p, r) → r.length + 1 ≤ ts.length) := by
 intro f
 induction f with
 | zero =>
   refine ⟨fun _ _ _ _ _ h => ?_, fun _ _ _ _ _ _ h => ?_, fun _ _ _ _ _ _ h => ?_, fun _ _ _ _ _ h => ?_⟩
   · rw [valR] at h; cases h
   · rw [itemsR] at h; cases h
   · rw [memsR] at h; cases h
   · rw [memR] at h; cases h
 | succ f ih =>
   obtain ⟨iv, il, im, ib⟩ := ih
   refine ⟨fun fx d ts v r h => ?_, fun fx d acc ts l r h => ?_, fun fx d acc ts l r h => ?_, fun fx d ts p r h => ?_⟩
   · rw [valR] at h
     split at h
     · rename_i ha
       have := at_len ha
       split at h
       · cases h
       · cases hi : itemsR f fx (d + 1) .nil ts.tail with
         | error e => rw [hi] at h; cases h
         | ok q =>
           obtain ⟨l, r'⟩ := q
           rw [hi] at h
           have := il _ _ _ _ _ _ hi
           have e := (Prod.mk.inj (Except.ok.inj h)).2
           subst e; omega
     · split at h
       · rename_i ha
         have := at_len ha
         split at h
         · cases h
         · cases hi : memsR f fx (d + 1) .nil ts.tail with
           | error e => rw [hi] at h; cases h
           | ok q =>
             obtain ⟨l, r'⟩ := q
             rw [hi] at h
             have := im _ _ _ _ _ _ hi
             have e := (Prod.mk.inj (Except.ok.inj h)).2
             subst e; omega
       · split at h
         · rename_i ha
           have := at_len (show atB 1 dolB ts = true by cases fx <;> simp_all)
           cases hn : nameR ts.tail with
           | none => rw [hn] at h; cases h
           | some q =>
             obtain ⟨s, r'⟩ := q
             rw [hn] at h
             have := name_len hn
             have e := (Prod.mk.inj (Except.ok.inj h)).2
             subst e; omega
         · cases ts with
           | nil => cases h
           | cons t ts =>
             unfold oneR at h
             simp only at h
             cases hs : singleR t with
             | none => rw [hs] at h; cases h
             | some q =>
               rw [hs] at h
               have e := (Prod.mk.inj (Except.ok.inj h)).2
               subst e; exact Nat.le_refl _
   · rw [itemsR] at h
     split at h
     · rename_i ha
       have := at_len ha
       have e := (Prod.mk.inj (Except.ok.inj h)).2
       subst e; omega
     · cases hi : valR f fx d ts with
       | error e => rw [hi] at h; cases h
       | ok q =>
         obtain ⟨v, r'⟩ := q
         rw [hi] at h
         have h1 := iv _ _ _ _ _ hi
         have h2 := il _ _ _ _ _ _ h
         omega
   · rw [memsR] at h
     split at h
     · rename_i ha
       have := at_len ha
       have e := (Prod.mk.inj (Except.ok.inj h)).2
       subst e; omega
     · cases hi : memR f fx d ts with
       | error e => rw [hi] at h; cases h
       | ok q =>
         obtain ⟨⟨nm, v⟩, r'⟩ := q
         rw [hi] at h
         have h1 := ib _ _ _ _ _ hi
         have h2 := im _ _ _ _ _ _ h
         omega
   · rw [memR] at h
     cases hn : nameR ts with
     | none => rw [hn] at h; cases h
     | some q =>
       obtain ⟨nm, r'⟩ := q
       rw [hn] at h
       have h0 := name_len hn
       simp only at h
       split at h
       · rename_i ha
         have h1 := at_len ha
         cases hi : valR f fx d r'.tail with
         | error e => rw [hi] at h; cases h
         | ok q =>
           obtain ⟨v, r2⟩ := q
           rw [hi] at h
           have h2 := iv _ _ _ _ _ hi
           have e := (Prod.mk.inj (Except.ok.inj h)).2
           subst e; omega
       · cases h
def GoodT (ts : List Tok) : Prop := ∀ t ∈ ts, t.2.size ≤ 9000 ∧ (t.1 = 3 → kindL t.2.data.toList = 3)
theorem GoodT.tail {ts : List Tok} (h : GoodT ts) : GoodT ts.tail := fun t ht => h t (List.mem_of_mem_tail ht)
theorem GoodT.name {ts r : List Tok} {s : ByteArray} (h : GoodT ts) (hn : nameR ts = some (s, r)) : s.size ≤ 9000 ∧ GoodT r := by
 cases ts with
 | nil => cases hn
 | cons t ts =>
   change (if t.1 = 2 then some (t.2, ts) else none) = some (s, r) at hn
   split at hn
   · obtain ⟨e1, e2⟩ := Prod.mk.inj (Option.some.inj hn)
     subst e1 e2
     exact ⟨(h t (by simp)).1, fun u hu => h u (by simp [hu])⟩
   · cases hn
def KRd (r : Nat) (w : World) : Prop := ∃ w0, Laid5 w0 ∧ w0.heap.size ≤ r ∧ Below w0.heap.size w0 w
theorem KRd.laid {r : Nat} {w : World} (h : KRd r w) : Laid5 w := by
 obtain ⟨w0, h0, _, hb⟩ := h
 exact h0.below hb
theorem KRd.moved {r : Nat} {w w' : World} (h : KRd r w) (m : Moved r w w') : KRd r w' := by
 obtain ⟨w0, h0, hl, hb⟩ := h
 exact ⟨w0, h0, hl, ⟨m.os.trans hb.os, m.tape.trans hb.tape, m.output.trans hb.output, Nat.le_trans hb.size m.size, fun k hk => (m.block k (Nat.lt_of_lt_of_le hk hb.size) (fun e => by injection e; omega)).trans (hb.block k hk)⟩⟩
def ValC (f : Nat) : Prop := ∀ (fx : Bool) (d : Nat) (ts : List Tok) (r : Nat) (w : World), 2 * ts.length + 1 ≤ f → GoodT ts → d ≤ 16 → Rd w r ts d → KRd r w →
 Calls Tryz.prog 49 #[.pointer (some ⟨r, 0, none⟩), .bool fx] w fun e w' => match valR f fx d ts with
  | .ok (v, ts') => (∃ d0 d1 d2 d3 d4, e = .returned (.agg #[d0, d1, d2, d3, d4]) ∧ VP w' (Fresh w w') v d0 d1 d2 d3 d4) ∧ Rd w' r ts' d ∧ GoodT ts' ∧ Moved r w w'
  | .error x => e = PanicE x ∧ Moved r w w'
def listR (f : Nat) (fx : Bool) (d : Nat) (ts : List Tok) : Except Int (VL × List Tok) := if d = 16 then .error 4 else itemsR f fx (d + 1) .nil ts.tail
def mapR (f : Nat) (fx : Bool) (d : Nat) (ts : List Tok) : Except Int (VM × List Tok) := if d = 16 then .error 4 else memsR f fx (d + 1) .nil ts.tail
def ListC (f : Nat) : Prop := ∀ (fx : Bool) (d : Nat) (ts : List Tok) (r : Nat) (w : World), 2 * ts.length ≤ f → GoodT ts → d ≤ 16 → atB 1 oB ts = true → Rd w r ts d → KRd r w →
 Calls Tryz.prog 115 #[.pointer (some ⟨r, 0, none⟩), .bool fx] w fun e w' => match listR f fx d ts with
  | .ok (l, ts') => (∃ d0 d1 d2 d3 d4, e = .returned (.agg #[d0, d1, d2, d3, d4]) ∧ VP w' (Fresh w w') (.mk 6 0 ⟨#[]⟩ l .nil) d0 d1 d2 d3 d4) ∧ Rd w' r ts' d ∧ GoodT ts' ∧ Moved r w w'
  | .error x => e = PanicE x ∧ Moved r w w'
def MemC (f : Nat) : Prop := ∀ (fx : Bool) (d : Nat) (ts : List Tok) (r : Nat) (w : World), 2 * ts.length + 1 ≤ f → GoodT ts → d ≤ 16 → Rd w r ts d → KRd r w →
 Calls Tryz.prog 187 #[.pointer (some ⟨r, 0, none⟩), .bool fx] w fun e w' => match memR f fx d ts with
  | .ok ((nm, v), ts') => (∃ d0 d1 d2 d3 d4, e = .returned (.agg #[.string nm, d0, d1, d2, d3, d4]) ∧ nm.size ≤ 9000 ∧ VP w' (Fresh w w') v d0 d1 d2 d3 d4) ∧ Rd w' r ts' d ∧ GoodT ts' ∧ Moved r w w'
  | .error x => e = PanicE x ∧ Moved r w w'
def MapC (f : Nat) : Prop := ∀ (fx : Bool) (d : Nat) (ts : List Tok) (r : Nat) (w : World), 2 * ts.length ≤ f → GoodT ts → d ≤ 16 → atB 1 omB ts = true → Rd w r ts d → KRd r w →
 Calls Tryz.prog 116 #[.pointer (some ⟨r, 0, none⟩), .bool fx] w fun e w' => match mapR f fx d ts with
  | .ok (l, ts') => (∃ d0 d1 d2 d3 d4, e = .returned (.agg #[d0, d1, d2, d3, d4]) ∧ VP w' (Fresh w w') (.mk 7 0 ⟨#[]⟩ .nil l) d0 d1 d2 d3 d4) ∧ Rd w' r ts' d ∧ GoodT ts' ∧ Moved r w w'
  | .error x => e = PanicE x ∧ Moved r w w'
theorem valR_list {f : Nat} {fx : Bool} {d : Nat} {ts : List Tok} (h : atB 1 oB ts = true) : valR (f + 1) fx d ts = (match listR f fx d ts with | .error e => .error e | .ok (l, r) => .ok (.mk 6 0 ⟨#[]⟩ l .nil, r)) := by
 rw [valR, if_pos h]
 unfold listR
 by_cases hd : d = 16
 · rw [if_pos hd, if_pos hd]
 · rw [if_neg hd, if_neg hd]
theorem valR_map {f : Nat} {fx : Bool} {d : Nat} {ts : List Tok} (h0 : atB 1 oB ts = false) (h : atB 1 omB ts = true) : valR (f + 1) fx d ts = (match mapR f fx d ts with | .error e => .error e | .ok (l, r) => .ok (.mk 7 0 ⟨#[]⟩ .nil l, r)) := by
 rw [valR, if_neg (by rw [h0]; simp), if_pos h]
 unfold mapR
 by_cases hd : d = 16
 · rw [if_pos hd, if_pos hd]
 · rw [if_neg hd, if_neg hd]
theorem valR_var {f : Nat} {fx : Bool} {d : Nat} {ts : List Tok} (h0 : atB 1 oB ts = false) (h1 : atB 1 omB ts = false) (h : (!fx && atB 1 dolB ts) = true) : valR (f + 1) fx d ts = (match nameR ts.tail with | none => .error 2 | some (s, r) => .ok (.mk 8 0 s .nil .nil, r)) := by
 rw [valR, if_neg (by rw [h0]; simp), if_neg (by rw [h1]; simp), if_pos h]
theorem valR_one {f : Nat} {fx : Bool} {d : Nat} {ts : List Tok} (h0 : atB 1 oB ts = false) (h1 : atB 1 omB ts = false) (h : (!fx && atB 1 dolB ts) = false) : valR (f + 1) fx d ts = oneR ts := by
 rw [valR, if_neg (by rw [h0]; simp), if_neg (by rw [h1]; simp), if_neg (by rw [h]; simp)]
def ResV (w : World) (r : Nat) (W : World) : Prop := W.heap[w.heap.size]? = some (.cells #[.int .i64 0, .int .i64 0, .string ⟨#[]⟩, .slice none 0 0, .slice none 0 0] 35 (0, 0)) ∧ Moved r w W ∧ r < w.heap.size
theorem ResV.start {w : World} {r : Nat} (hr : r < w.heap.size) : ResV w r (w.alloc (.cells #[.int .i64 0, .int .i64 0, .string ⟨#[]⟩, .slice none 0 0, .slice none 0 0] 35)) := ⟨heap_alloc_new _ _, Moved.of_below ((Below.refl _ _).alloc (Nat.le_refl _) _), hr⟩
theorem ResV.next {w : World} {r : Nat} {W W' : World} (h : ResV w r W) (m : Moved r W W') : ResV w r W' := ⟨m.keep h.1 (by have := h.2.2; omega), h.2.1.trans m, h.2.2⟩
abbrev set5 (W : World) (b : Nat) (x0 x1 x2 x3 x4 : Value) : World := ((((W.setCell ⟨b, 0, none⟩ x0).setCell ⟨b, 1, none⟩ x1).setCell ⟨b, 2, none⟩ x2).setCell ⟨b, 3, none⟩ x3).setCell ⟨b, 4, none⟩ x4
theorem set5_size (W : World) (b : Nat) (x0 x1 x2 x3 x4 : Value) : (set5 W b x0 x1 x2 x3 x4).heap.size = W.heap.size := by simp [set5, World.setCell]
theorem set5_other (W : World) (b : Nat) (x0 x1 x2 x3 x4 : Value) {k : Nat} (h : k ≠ b) : (set5 W b x0 x1 x2 x3 x4).heap[k]? = W.heap[k]? := by
 unfold set5
 rw [Below.heap_setCell _ _ _ _ h, Below.heap_setCell _ _ _ _ h, Below.heap_setCell _ _ _ _ h, Below.heap_setCell _ _ _ _ h, Below.heap_setCell _ _ _ _ h]
theorem ResV.fin {w : World} {r : Nat} {W : World} (h : ResV w r W) (x0 x1 x2 x3 x4 : Value) : (set5 W w.heap.size x0 x1 x2 x3 x4).heap[w.heap.size]? = some (.cells #[x0, x1, x2, x3, x4] 35 (0, 0)) ∧ Moved r w (set5 W w.heap.size x0 x1 x2 x3 x4) :=
 ⟨five_set h.1, ((((h.2.1.put (Nat.le_refl _)).put (Nat.le_refl _)).put (Nat.le_refl _)).put (Nat.le_refl _)).put (Nat.le_refl _)⟩
theorem Rd.set5 {w : World} {r b : Nat} {x0 x1 x2 x3 x4 : Value} {ts : List Tok} {d : Nat} (h : Rd w r ts d) (hb : r < b) : Rd (set5 w b x0 x1 x2 x3 x4) r ts d := ((((h.set hb).set hb).set hb).set hb).set hb
theorem vp_fin {w W0 W : World} {v : VT} {c0 c1 c2 c3 c4 x0 x1 x2 x3 x4 : Value} (h : VP W (Fresh W0 W) v c0 c1 c2 c3 c4) (h0 : w.heap.size + 1 ≤ W0.heap.size) : VP (set5 W w.heap.size x0 x1 x2 x3 x4) (Fresh w (set5 W w.heap.size x0 x1 x2 x3 x4)) v c0 c1 c2 c3 c4 :=
 VP.keep (fun b hb => by
  have h1 := hb.1
  have h2 := hb.2
  exact ⟨⟨by omega, by rw [set5_size]; exact h2⟩, set5_other _ _ _ _ _ _ _ (by omega)⟩) _ _ _ _ _ _ h
theorem flat_vp (w : World) (P : Nat → Prop) (k n : Int) (s : ByteArray) (hs : s.size ≤ 9000) : VP w P (.mk k n s .nil .nil) (.int .i64 k) (.int .i64 n) (.string s) (.slice none 0 0) (.slice none 0 0) := by
 unfold VP
 exact ⟨rfl, rfl, rfl, by omega, ⟨none, 0, rfl, Nat.zero_le _, by unfold LP; trivial⟩, none, 0, rfl, Nat.zero_le _, by unfold MP; trivial⟩
set_option maxRecDepth 100000 in
set_option maxHeartbeats 8000000 in
theorem val_list (f : Nat) (HL : ListC f) (fx : Bool) (d : Nat) (ts : List Tok) (r : Nat) (w : World) (hf : 2 * ts.length + 1 ≤ f + 1) (hG : GoodT ts) (hd : d ≤ 16) (hR : Rd w r ts d) (hK : KRd r w) (hb : atB 1 oB ts = true) :
 Calls Tryz.prog 49 #[.pointer (some ⟨r, 0, none⟩), .bool fx] w fun e w' => match valR (f + 1) fx d ts with
   | .ok (v, ts') => (∃ d0 d1 d2 d3 d4, e = .returned (.agg #[d0, d1, d2, d3, d4]) ∧ VP w' (Fresh w w') v d0 d1 d2 d3 d4) ∧ Rd w' r ts' d ∧ GoodT ts' ∧ Moved r w w'
   | .error x => e = PanicE x ∧ Moved r w w' := by
 have K0 := Hd (ResV.start hR.lt)
 have B0 := Hd ((Below.refl w.heap.size w).alloc (Nat.le_refl _) (.cells #[.int .i64 0, .int .i64 0, .string ⟨#[]⟩, .slice none 0 0, .slice none 0 0] 35))
 have HA := Hd (at_any r ts d 1 oB _ (hR.below B0.out))
 have C := Hd (HL fx d ts r _ (by omega) hG hd hb (hR.below B0.out) (hK.moved (Moved.of_below B0.out)))
 rw [valR_list hb]
 rw [hb] at HA
 have hsz : Hid ((w.alloc (.cells #[.int .i64 0, .int .i64 0, .string ⟨#[]⟩, .slice none 0 0, .slice none 0 0] 35)).heap.size = w.heap.size + 1) := Hd (by simp)
 clear hR hK hb hf hG
 cases hl : listR f fx d ts with
 | error x =>
   rw [hl] at C
   show Calls _ _ _ _ fun e w' => e = PanicE x ∧ Moved r w w'
   go_enter Tryz.func49, Tryz.ntmps49
   go_wp2_with fail
   refine HA.out.mono ?_
   rintro e w1 ⟨rfl, rfl⟩
   go_wp2_with fail
   refine C.out.mono ?_
   rintro e w2 ⟨rfl, m2⟩
   exact ⟨rfl, rfl, K0.out.2.1.trans m2⟩
 | ok p =>
   obtain ⟨l, ts1⟩ := p
   rw [hl] at C
   show Calls _ _ _ _ fun e w' => (∃ d0 d1 d2 d3 d4, e = .returned (.agg #[d0, d1, d2, d3, d4]) ∧ VP w' (Fresh w w') (.mk 6 0 ⟨#[]⟩ l .nil) d0 d1 d2 d3 d4) ∧ Rd w' r ts1 d ∧ GoodT ts1 ∧ Moved r w w'
   clear hl
   go_enter Tryz.func49, Tryz.ntmps49
   go_wp2_with fail
   refine HA.out.mono ?_
   rintro e w1 ⟨rfl, rfl⟩
   go_wp2_with fail
   refine C.out.mono ?_
   rintro e w2 ⟨⟨d0, d1, d2, d3, d4, rfl, hv⟩, r2, g2, m2⟩
   have HV := Hd hv
   have R2 := Hd (And.intro r2 g2)
   have K2 := Hd (K0.out.next m2)
   unfold VP at hv
   obtain ⟨rfl, rfl, rfl, _, ⟨A3, c3, rfl, _, _⟩, A4, c4, rfl, _, _⟩ := hv
   obtain ⟨q0, q1, q2, q3, q4, qz⟩ := gvc K2.out.1
   have z0 := qz 0
   have z1 := qz 1
   have z2 := qz 2
   have z3 := qz 3
   have z4 := qz 4
   clear r2 g2 m2 C HA K0 qz
   go_wp2_with fail
   refine ret_v1 rfl rfl rfl (K2.out.fin _ _ _ _ _).1 ⟨⟨_, _, _, _, _, rfl, vp_fin HV.out (Nat.le_of_eq hsz.out.symm)⟩, R2.out.1.set5 K2.out.2.2, R2.out.2, (K2.out.fin _ _ _ _ _).2⟩
set_option maxRecDepth 100000 in
set_option maxHeartbeats 8000000 in
theorem val_map (f : Nat) (HL : MapC f) (fx : Bool) (d : Nat) (ts : List Tok) (r : Nat) (w : World) (hf : 2 * ts.length + 1 ≤ f + 1) (hG : GoodT ts) (hd : d ≤ 16) (hR : Rd w r ts d) (hK : KRd r w) (h0 : atB 1 oB ts = false) (hb : atB 1 omB ts = true) :
 Calls Tryz.prog 49 #[.pointer (some ⟨r, 0, none⟩), .bool fx] w fun e w' => match valR (f + 1) fx d ts with
   | .ok (v, ts') => (∃ d0 d1 d2 d3 d4, e = .returned (.agg #[d0, d1, d2, d3, d4]) ∧ VP w' (Fresh w w') v d0 d1 d2 d3 d4) ∧ Rd w' r ts' d ∧ GoodT ts' ∧ Moved r w w'
   | .error x => e = PanicE x ∧ Moved r w w' := by
 have K0 := Hd (ResV.start hR.lt)
 have B0 := Hd ((Below.refl w.heap.size w).alloc (Nat.le_refl _) (.cells #[.int .i64 0, .int .i64 0, .string ⟨#[]⟩, .slice none 0 0, .slice none 0 0] 35))
 have HA := Hd (at_any r ts d 1 oB _ (hR.below B0.out))
 have HA2 := Hd (at_any r ts d 1 omB _ (hR.below B0.out))
 have C := Hd (HL fx d ts r _ (by omega) hG hd hb (hR.below B0.out) (hK.moved (Moved.of_below B0.out)))
 rw [valR_map h0 hb]
 rw [h0] at HA
 rw [hb] at HA2
 have hsz : Hid ((w.alloc (.cells #[.int .i64 0, .int .i64 0, .string ⟨#[]⟩, .slice none 0 0, .slice none 0 0] 35)).heap.size = w.heap.size + 1) := Hd (by simp)
 clear hR hK hb hf hG h0
 cases hl : mapR f fx d ts with
 | error x =>
   rw [hl] at C
   show Calls _ _ _ _ fun e w' => e = PanicE x ∧ Moved r w w'
   go_enter Tryz.func49, Tryz.ntmps49
   go_wp2_with fail
   refine HA.out.mono ?_
   rintro e w1 ⟨rfl, rfl⟩
   go_wp2_with fail
   refine HA2.out.mono ?_
   rintro e w1 ⟨rfl, rfl⟩
   go_wp2_with fail
   refine C.out.mono ?_
   rintro e w2 ⟨rfl, m2⟩
   exact ⟨rfl, rfl, K0.out.2.1.trans m2⟩
 | ok p =>
   obtain ⟨l, ts1⟩ := p
   rw [hl] at C
   show Calls _ _ _ _ fun e w' => (∃ d0 d1 d2 d3 d4, e = .returned (.agg #[d0, d1, d2, d3, d4]) ∧ VP w' (Fresh w w') (.mk 7 0 ⟨#[]⟩ .nil l) d0 d1 d2 d3 d4) ∧ Rd w' r ts1 d ∧ GoodT ts1 ∧ Moved r w w'
   clear hl
   go_enter Tryz.func49, Tryz.ntmps49
   go_wp2_with fail
   refine HA.out.mono ?_
   rintro e w1 ⟨rfl, rfl⟩
   go_wp2_with fail
   refine HA2.out.mono ?_
   rintro e w1 ⟨rfl, rfl⟩
   go_wp2_with fail
   refine C.out.mono ?_
   rintro e w2 ⟨⟨d0, d1, d2, d3, d4, rfl, hv⟩, r2, g2, m2⟩
   have HV := Hd hv
   have R2 := Hd (And.intro r2 g2)
   have K2 := Hd (K0.out.next m2)
   unfold VP at hv
   obtain ⟨rfl, rfl, rfl, _, ⟨A3, c3, rfl, _, _⟩, A4, c4, rfl, _, _⟩ := hv
   obtain ⟨q0, q1, q2, q3, q4, qz⟩ := gvc K2.out.1
   have z0 := qz 0
   have z1 := qz 1
   have z2 := qz 2
   have z3 := qz 3
   have z4 := qz 4
   clear r2 g2 m2 C HA HA2 K0 qz
   go_wp2_with fail
   refine ret_v1 rfl rfl rfl (K2.out.fin _ _ _ _ _).1 ⟨⟨_, _, _, _, _, rfl, vp_fin HV.out (Nat.le_of_eq hsz.out.symm)⟩, R2.out.1.set5 K2.out.2.2, R2.out.2, (K2.out.fin _ _ _ _ _).2⟩
theorem oneR_no {t : Tok} {ts : List Tok} (h : singleR t = none) : oneR (t :: ts) = .error 2 := by unfold oneR; simp only [h]
theorem oneR_yes {t : Tok} {ts : List Tok} {k n : Int} {s : ByteArray} (h : singleR t = some (k, n, s)) : oneR (t :: ts) = .ok (.mk k n s .nil .nil, ts) := by unfold oneR; simp only [h]
theorem single_size {t : Tok} {k n : Int} {s : ByteArray} (ht : t.2.size ≤ 9000) (h : singleR t = some (k, n, s)) : s.size ≤ 9000 := by
 have hz : (⟨#[]⟩ : ByteArray).size = 0 := rfl
 have h2 := h
 unfold singleR at h2
 split at h2
 · have h3 := Option.some.inj h2
   unfold wordR at h3
   repeat' split at h3
   all_goals
     have := (Prod.mk.inj (Prod.mk.inj h3).2).2
     subst this
     omega
 · split at h2
   · split at h2
     · have := (Prod.mk.inj (Prod.mk.inj (Option.some.inj h2)).2).2
       subst this; omega
     · have := (Prod.mk.inj (Prod.mk.inj (Option.some.inj h2)).2).2
       subst this; exact ht
   · split at h2
     · have := (Prod.mk.inj (Prod.mk.inj (Option.some.inj h2)).2).2
       subst this; exact ht
     · split at h2
       · have := (Prod.mk.inj (Prod.mk.inj (Option.some.inj h2)).2).2
         subst this; exact ht
       · cases h2
set_option maxRecDepth 100000 in
set_option maxHeartbeats 8000000 in
theorem val_var (f d : Nat) (ts : List Tok) (r : Nat) (w : World) (hG : GoodT ts) (hR : Rd w r ts d) (h0 : atB 1 oB ts = false) (h1 : atB 1 omB ts = false) (hb : atB 1 dolB ts = true) :
 Calls Tryz.prog 49 #[.pointer (some ⟨r, 0, none⟩), .bool false] w fun e w' => match valR (f + 1) false d ts with
   | .ok (v, ts') => (∃ d0 d1 d2 d3 d4, e = .returned (.agg #[d0, d1, d2, d3, d4]) ∧ VP w' (Fresh w w') v d0 d1 d2 d3 d4) ∧ Rd w' r ts' d ∧ GoodT ts' ∧ Moved r w w'
   | .error x => e = PanicE x ∧ Moved r w w' := by
 have K0 := Hd (ResV.start hR.lt)
 have B0 := Hd ((Below.refl w.heap.size w).alloc (Nat.le_refl _) (.cells #[.int .i64 0, .int .i64 0, .string ⟨#[]⟩, .slice none 0 0, .slice none 0 0] 35))
 have HA := Hd (at_any r ts d 1 oB _ (hR.below B0.out))
 have HA2 := Hd (at_any r ts d 1 omB _ (hR.below B0.out))
 rw [h0] at HA
 rw [h1] at HA2
 have HS := Hd (skip_any r ts d 1 dolB _ (hR.below B0.out))
 have hst : skipT 1 dolB ts = ts.tail := by unfold skipT; rw [hb]; rfl
 rw [hst, hb] at HS
 rw [valR_var h0 h1 (by rw [hb]; rfl)]
 have hgt := hG.tail
 clear hR hst hb h0 h1 hG
 cases hn : nameR ts.tail with
 | none =>
   have HP := fun wx (hx : Rd wx r ts.tail d) => Hd (by have := pname_any r ts.tail d wx hx; rw [hn] at this; exact this)
   show Calls _ _ _ _ fun e w' => e = PanicE 2 ∧ Moved r w w'
   clear hn hgt
   go_enter Tryz.func49, Tryz.ntmps49
   go_wp2_with fail
   refine HA.out.mono ?_
   rintro e w1 ⟨rfl, rfl⟩
   go_wp2_with fail
   refine HA2.out.mono ?_
   rintro e w1 ⟨rfl, rfl⟩
   go_wp2_with fail
   refine HS.out.mono ?_
   rintro e w2 ⟨rfl, r2, m2⟩
   have K2 := Hd (K0.out.next m2)
   have R2 := Hd r2
   clear r2 m2
   go_wp2_with fail
   refine (HP _ R2.out).out.mono ?_
   rintro e w3 ⟨rfl, m3⟩
   exact ⟨rfl, rfl, K2.out.2.1.trans m3⟩
 | some p =>
   obtain ⟨s, ts1⟩ := p
   have HP := fun wx (hx : Rd wx r ts.tail d) => Hd (by have := pname_any r ts.tail d wx hx; rw [hn] at this; exact this)
   have hg1 := Hd (hgt.name hn)
   show Calls _ _ _ _ fun e w' => (∃ d0 d1 d2 d3 d4, e = .returned (.agg #[d0, d1, d2, d3, d4]) ∧ VP w' (Fresh w w') (.mk 8 0 s .nil .nil) d0 d1 d2 d3 d4) ∧ Rd w' r ts1 d ∧ GoodT ts1 ∧ Moved r w w'
   clear hn hgt
   go_enter Tryz.func49, Tryz.ntmps49
   go_wp2_with fail
   refine HA.out.mono ?_
   rintro e w1 ⟨rfl, rfl⟩
   go_wp2_with fail
   refine HA2.out.mono ?_
   rintro e w1 ⟨rfl, rfl⟩
   go_wp2_with fail
   refine HS.out.mono ?_
   rintro e w2 ⟨rfl, r2, m2⟩
   have K2 := Hd (K0.out.next m2)
   have R2 := Hd r2
   clear r2 m2
   go_wp2_with fail
   refine (HP _ R2.out).out.mono ?_
   rintro e w3 ⟨rfl, r3, m3⟩
   have K3 := Hd (K2.out.next m3)
   have R3 := Hd r3
   obtain ⟨q0, q1, q2, q3, q4, qz⟩ := gvc K3.out.1
   have z0 := qz 0
   have z1 := qz 1
   have z2 := qz 2
   have z3 := qz 3
   have z4 := qz 4
   clear qz
   clear r3 m3 HP HS K0 K2 R2 HA HA2
   go_wp2_with fail
   refine ret_v1 rfl rfl rfl (K3.out.fin _ _ _ _ _).1 ⟨⟨_, _, _, _, _, rfl, flat_vp _ _ 8 0 s hg1.out.1⟩, R3.out.set5 K3.out.2.2, hg1.out.2, (K3.out.fin _ _ _ _ _).2⟩
set_option maxRecDepth 100000 in
set_option maxHeartbeats 8000000 in
theorem val_one_true (f d : Nat) (ts : List Tok) (r : Nat) (w : World) (hG : GoodT ts) (hR : Rd w r ts d) (hK : KRd r w) (h0 : atB 1 oB ts = false) (h1 : atB 1 omB ts = false) :
 Calls Tryz.prog 49 #[.pointer (some ⟨r, 0, none⟩), .bool true] w fun e w' => match valR (f + 1) true d ts with
   | .ok (v, ts') => (∃ d0 d1 d2 d3 d4, e = .returned (.agg #[d0, d1, d2, d3, d4]) ∧ VP w' (Fresh w w') v d0 d1 d2 d3 d4) ∧ Rd w' r ts' d ∧ GoodT ts' ∧ Moved r w w'
   | .error x => e = PanicE x ∧ Moved r w w' := by
 have K0 := Hd (ResV.start hR.lt)
 have B0 := Hd ((Below.refl w.heap.size w).alloc (Nat.le_refl _) (.cells #[.int .i64 0, .int .i64 0, .string ⟨#[]⟩, .slice none 0 0, .slice none 0 0] 35))
 have HA := Hd (at_any r ts d 1 oB _ (hR.below B0.out))
 have HA2 := Hd (at_any r ts d 1 omB _ (hR.below B0.out))
 rw [h0] at HA
 rw [h1] at HA2
 have R0 := Hd (hR.below B0.out)
 have KD := Hd (hK.moved (Moved.of_below B0.out))
 rw [valR_one h0 h1 rfl]
 clear hR h0 h1 hK
 cases ts with
 | nil =>
   have HT := fun wx (hx : Rd wx r [] d) => Hd (take_no r d wx hx)
   show Calls _ _ _ _ fun e w' => e = PanicE 2 ∧ Moved r w w'
   go_enter Tryz.func49, Tryz.ntmps49
   go_wp2_with fail
   refine HA.out.mono ?_
   rintro e w1 ⟨rfl, rfl⟩
   go_wp2_with fail
   refine HA2.out.mono ?_
   rintro e w1 ⟨rfl, rfl⟩
   go_wp2_with fail
   refine (HT _ R0.out).out.mono ?_
   rintro e w3 ⟨rfl, m3⟩
   exact ⟨rfl, rfl, K0.out.2.1.trans m3⟩
 | cons t ts =>
   have HT := fun wx (hx : Rd wx r (t :: ts) d) => Hd (take_yes r t ts d wx hx)
   have HG := Hd (hG t (by simp))
   have hgt := Hd hG.tail
   have HSG := fun wx (hx : Laid5 wx) => Hd (single_any t wx HG.out.1 HG.out.2 hx)
   clear hG
   cases hs : singleR t with
   | none =>
     rw [hs] at HSG
     rw [oneR_no hs]
     show Calls _ _ _ _ fun e w' => e = PanicE 2 ∧ Moved r w w'
     clear hs
     go_enter Tryz.func49, Tryz.ntmps49
     go_wp2_with fail
     refine HA.out.mono ?_
     rintro e w1 ⟨rfl, rfl⟩
     go_wp2_with fail
     refine HA2.out.mono ?_
     rintro e w1 ⟨rfl, rfl⟩
     go_wp2_with fail
     refine (HT _ R0.out).out.mono ?_
     rintro e w3 ⟨rfl, r3, m3⟩
     have K3 := Hd (K0.out.next m3)
     have D3 := Hd (KD.out.moved m3)
     clear r3 m3
     go_wp2_with fail
     refine (HSG _ D3.out.laid).out.mono ?_
     rintro e w4 ⟨rfl, hb4⟩
     exact ⟨rfl, rfl, K3.out.2.1.trans (Moved.of_below hb4)⟩
   | some p =>
     obtain ⟨k, n, s⟩ := p
     rw [hs] at HSG
     have hss := Hd (single_size HG.out.1 hs)
     rw [oneR_yes hs]
     show Calls _ _ _ _ fun e w' => (∃ d0 d1 d2 d3 d4, e = .returned (.agg #[d0, d1, d2, d3, d4]) ∧ VP w' (Fresh w w') (.mk k n s .nil .nil) d0 d1 d2 d3 d4) ∧ Rd w' r ts d ∧ GoodT ts ∧ Moved r w w'
     unfold flatV at HSG
     clear hs
     go_enter Tryz.func49, Tryz.ntmps49
     go_wp2_with fail
     refine HA.out.mono ?_
     rintro e w1 ⟨rfl, rfl⟩
     go_wp2_with fail
     refine HA2.out.mono ?_
     rintro e w1 ⟨rfl, rfl⟩
     go_wp2_with fail
     refine (HT _ R0.out).out.mono ?_
     rintro e w3 ⟨rfl, r3, m3⟩
     have K3 := Hd (K0.out.next m3)
     have D3 := Hd (KD.out.moved m3)
     have R3 := Hd r3
     clear r3 m3
     go_wp2_with fail
     refine (HSG _ D3.out.laid).out.mono ?_
     rintro e w4 ⟨rfl, hb4⟩
     have K4 := Hd (K3.out.next (Moved.of_below hb4))
     have R4 := Hd (R3.out.below hb4)
     obtain ⟨q0, q1, q2, q3, q4, qz⟩ := gvc K4.out.1
     have z0 := qz 0
     have z1 := qz 1
     have z2 := qz 2
     have z3 := qz 3
     have z4 := qz 4
     clear qz
     clear hb4 K3 R3 D3 HSG HT
     go_wp2_with fail
     refine ret_v1 rfl rfl rfl (K4.out.fin _ _ _ _ _).1 ⟨⟨_, _, _, _, _, rfl, flat_vp _ _ k n s hss.out⟩, R4.out.set5 K4.out.2.2, hgt.out, (K4.out.fin _ _ _ _ _).2⟩
set_option maxRecDepth 100000 in
set_option maxHeartbeats 8000000 in
theorem val_one_false (f d : Nat) (ts : List Tok) (r : Nat) (w : World) (hG : GoodT ts) (hR : Rd w r ts d) (hK : KRd r w) (h0 : atB 1 oB ts = false) (h1 : atB 1 omB ts = false) (hb : atB 1 dolB ts = false) :
 Calls Tryz.prog 49 #[.pointer (some ⟨r, 0, none⟩), .bool false] w fun e w' => match valR (f + 1) false d ts with
   | .ok (v, ts') => (∃ d0 d1 d2 d3 d4, e = .returned (.agg #[d0, d1, d2, d3, d4]) ∧ VP w' (Fresh w w') v d0 d1 d2 d3 d4) ∧ Rd w' r ts' d ∧ GoodT ts' ∧ Moved r w w'
   | .error x => e = PanicE x ∧ Moved r w w' := by
 have K0 := Hd (ResV.start hR.lt)
 have B0 := Hd ((Below.refl w.heap.size w).alloc (Nat.le_refl _) (.cells #[.int .i64 0, .int .i64 0, .string ⟨#[]⟩, .slice none 0 0, .slice none 0 0] 35))
 have HA := Hd (at_any r ts d 1 oB _ (hR.below B0.out))
 have HA2 := Hd (at_any r ts d 1 omB _ (hR.below B0.out))
 rw [h0] at HA
 rw [h1] at HA2
 have R0 := Hd (hR.below B0.out)
 have KD := Hd (hK.moved (Moved.of_below B0.out))
 have HS := Hd (skip_any r ts d 1 dolB _ (hR.below B0.out))
 have hst : skipT 1 dolB ts = ts := by unfold skipT; rw [hb]; rfl
 rw [hst, hb] at HS
 rw [valR_one h0 h1 (by rw [hb]; rfl)]
 clear hR hst hb h0 h1 hK
 cases ts with
 | nil =>
   have HT := fun wx (hx : Rd wx r [] d) => Hd (take_no r d wx hx)
   show Calls _ _ _ _ fun e w' => e = PanicE 2 ∧ Moved r w w'
   go_enter Tryz.func49, Tryz.ntmps49
   go_wp2_with fail
   refine HA.out.mono ?_
   rintro e w1 ⟨rfl, rfl⟩
   go_wp2_with fail
   refine HA2.out.mono ?_
   rintro e w1 ⟨rfl, rfl⟩
   go_wp2_with fail
   refine HS.out.mono ?_
   rintro e w2 ⟨rfl, r2, m2⟩
   have K2 := Hd (K0.out.next m2)
   have R2 := Hd r2
   have D2 := Hd (KD.out.moved m2)
   clear r2 m2
   go_wp2_with fail
   refine (HT _ R2.out).out.mono ?_
   rintro e w3 ⟨rfl, m3⟩
   exact ⟨rfl, rfl, K2.out.2.1.trans m3⟩
 | cons t ts =>
   have HT := fun wx (hx : Rd wx r (t :: ts) d) => Hd (take_yes r t ts d wx hx)
   have HG := Hd (hG t (by simp))
   have hgt := Hd hG.tail
   have HSG := fun wx (hx : Laid5 wx) => Hd (single_any t wx HG.out.1 HG.out.2 hx)
   clear hG
   cases hs : singleR t with
   | none =>
     rw [hs] at HSG
     rw [oneR_no hs]
     show Calls _ _ _ _ fun e w' => e = PanicE 2 ∧ Moved r w w'
     clear hs
     go_enter Tryz.func49, Tryz.ntmps49
     go_wp2_with fail
     refine HA.out.mono ?_
     rintro e w1 ⟨rfl, rfl⟩
     go_wp2_with fail
     refine HA2.out.mono ?_
     rintro e w1 ⟨rfl, rfl⟩
     go_wp2_with fail
     refine HS.out.mono ?_
     rintro e w2 ⟨rfl, r2, m2⟩
     have K2 := Hd (K0.out.next m2)
     have R2 := Hd r2
     have D2 := Hd (KD.out.moved m2)
     clear r2 m2
     go_wp2_with fail
     refine (HT _ R2.out).out.mono ?_
     rintro e w3 ⟨rfl, r3, m3⟩
     have K3 := Hd (K2.out.next m3)
     have D3 := Hd (D2.out.moved m3)
     clear r3 m3
     go_wp2_with fail
     refine (HSG _ D3.out.laid).out.mono ?_
     rintro e w4 ⟨rfl, hb4⟩
     exact ⟨rfl, rfl, K3.out.2.1.trans (Moved.of_below hb4)⟩
   | some p =>
     obtain ⟨k, n, s⟩ := p
     rw [hs] at HSG
     have hss := Hd (single_size HG.out.1 hs)
     rw [oneR_yes hs]
     show Calls _ _ _ _ fun e w' => (∃ d0 d1 d2 d3 d4, e = .returned (.agg #[d0, d1, d2, d3, d4]) ∧ VP w' (Fresh w w') (.mk k n s .nil .nil) d0 d1 d2 d3 d4) ∧ Rd w' r ts d ∧ GoodT ts ∧ Moved r w w'
     unfold flatV at HSG
     clear hs
     go_enter Tryz.func49, Tryz.ntmps49
     go_wp2_with fail
     refine HA.out.mono ?_
     rintro e w1 ⟨rfl, rfl⟩
     go_wp2_with fail
     refine HA2.out.mono ?_
     rintro e w1 ⟨rfl, rfl⟩
     go_wp2_with fail
     refine HS.out.mono ?_
     rintro e w2 ⟨rfl, r2, m2⟩
     have K2 := Hd (K0.out.next m2)
     have R2 := Hd r2
     have D2 := Hd (KD.out.moved m2)
     clear r2 m2
     go_wp2_with fail
     refine (HT _ R2.out).out.mono ?_
     rintro e w3 ⟨rfl, r3, m3⟩
     have K3 := Hd (K2.out.next m3)
     have D3 := Hd (D2.out.moved m3)
     have R3 := Hd r3
     clear r3 m3
     go_wp2_with fail
     refine (HSG _ D3.out.laid).out.mono ?_
     rintro e w4 ⟨rfl, hb4⟩
     have K4 := Hd (K3.out.next (Moved.of_below hb4))
     have R4 := Hd (R3.out.below hb4)
     obtain ⟨q0, q1, q2, q3, q4, qz⟩ := gvc K4.out.1
     have z0 := qz 0
     have z1 := qz 1
     have z2 := qz 2
     have z3 := qz 3
     have z4 := qz 4
     clear qz
     clear hb4 K3 R3 D3 HSG HT
     go_wp2_with fail
     refine ret_v1 rfl rfl rfl (K4.out.fin _ _ _ _ _).1 ⟨⟨_, _, _, _, _, rfl, flat_vp _ _ k n s hss.out⟩, R4.out.set5 K4.out.2.2, hgt.out, (K4.out.fin _ _ _ _ _).2⟩
theorem val_step (f : Nat) (HL : ListC f) (HM : MapC f) : ValC (f + 1) := by
 intro fx d ts r w hf hG hd hR hK
 cases h0 : atB 1 oB ts with
 | true => exact val_list f HL fx d ts r w hf hG hd hR hK h0
 | false =>
   cases h1 : atB 1 omB ts with
   | true => exact val_map f HM fx d ts r w hf hG hd hR hK h0 h1
   | false =>
     cases fx with
     | true => exact val_one_true f d ts r w hG hR hK h0 h1
     | false =>
       cases hb : atB 1 dolB ts with
       | true => exact val_var f d ts r w hG hR h0 h1 hb
       | false => exact val_one_false f d ts r w hG hR hK h0 h1 hb
theorem memR_none {f : Nat} {fx : Bool} {d : Nat} {ts : List Tok} (h : nameR ts = none) : memR (f + 1) fx d ts = .error 2 := by rw [memR, h]
theorem memR_col {f : Nat} {fx : Bool} {d : Nat} {ts r : List Tok} {nm : ByteArray} (h : nameR ts = some (nm, r)) (hc : atB 1 colB r = false) : memR (f + 1) fx d ts = .error 2 := by
 rw [memR, h]; simp only [hc]; rfl
theorem memR_err {f : Nat} {fx : Bool} {d : Nat} {ts r : List Tok} {nm : ByteArray} {e : Int} (h : nameR ts = some (nm, r)) (hc : atB 1 colB r = true) (hv : valR f fx d r.tail = .error e) : memR (f + 1) fx d ts = .error e := by
 rw [memR, h]; simp only [hc, hv]; rfl
theorem memR_ok {f : Nat} {fx : Bool} {d : Nat} {ts r r2 : List Tok} {nm : ByteArray} {v : VT} (h : nameR ts = some (nm, r)) (hc : atB 1 colB r = true) (hv : valR f fx d r.tail = .ok (v, r2)) : memR (f + 1) fx d ts = .ok ((nm, v), r2) := by
 rw [memR, h]; simp only [hc, hv]; rfl
abbrev memZ : Obj := .cells #[.string ⟨#[]⟩, .int .i64 0, .int .i64 0, .string ⟨#[]⟩, .slice none 0 0, .slice none 0 0] 98
def ResM (w : World) (r : Nat) (W : World) : Prop := W.heap[w.heap.size]? = some memZ ∧ Moved r w W ∧ r < w.heap.size
theorem ResM.start {w : World} {r : Nat} (hr : r < w.heap.size) : ResM w r (w.alloc memZ) := ⟨heap_alloc_new _ _, Moved.of_below ((Below.refl _ _).alloc (Nat.le_refl _) _), hr⟩
theorem ResM.next {w : World} {r : Nat} {W W' : World} (h : ResM w r W) (m : Moved r W W') : ResM w r W' := ⟨m.keep h.1 (by have := h.2.2; omega), h.2.1.trans m, h.2.2⟩
abbrev set6 (W : World) (b : Nat) (x0 x1 x2 x3 x4 x5 : Value) : World := (((((W.setCell ⟨b, 0, none⟩ x0).setCell ⟨b, 1, none⟩ x1).setCell ⟨b, 2, none⟩ x2).setCell ⟨b, 3, none⟩ x3).setCell ⟨b, 4, none⟩ x4).setCell ⟨b, 5, none⟩ x5
theorem set6_size (W : World) (b : Nat) (x0 x1 x2 x3 x4 x5 : Value) : (set6 W b x0 x1 x2 x3 x4 x5).heap.size = W.heap.size := by simp [set6, World.setCell]
theorem set6_other (W : World) (b : Nat) (x0 x1 x2 x3 x4 x5 : Value) {k : Nat} (h : k ≠ b) : (set6 W b x0 x1 x2 x3 x4 x5).heap[k]? = W.heap[k]? := by
 unfold set6
 rw [Below.heap_setCell _ _ _ _ h, Below.heap_setCell _ _ _ _ h, Below.heap_setCell _ _ _ _ h, Below.heap_setCell _ _ _ _ h, Below.heap_setCell _ _ _ _ h, Below.heap_setCell _ _ _ _ h]
theorem six_set {w : World} {b : Nat} {z0 z1 z2 z3 z4 z5 v0 v1 v2 v3 v4 v5 : Value} {t : TypeId} (h : w.heap[b]? = some (.cells #[z0, z1, z2, z3, z4, z5] t (0, 0))) : (set6 w b v0 v1 v2 v3 v4 v5).heap[b]? = some (.cells #[v0, v1, v2, v3, v4, v5] t (0, 0)) :=
 heap_setCell_same _ b 5 _ _ _ (heap_setCell_same _ b 4 _ _ _ (heap_setCell_same _ b 3 _ _ _ (heap_setCell_same _ b 2 _ _ _ (heap_setCell_same _ b 1 _ _ _ (heap_setCell_same _ b 0 _ _ _ h)))))
theorem ResM.fin {w : World} {r : Nat} {W : World} (h : ResM w r W) (x0 x1 x2 x3 x4 x5 : Value) : (set6 W w.heap.size x0 x1 x2 x3 x4 x5).heap[w.heap.size]? = some (.cells #[x0, x1, x2, x3, x4, x5] 98 (0, 0)) ∧ Moved r w (set6 W w.heap.size x0 x1 x2 x3 x4 x5) :=
 ⟨six_set h.1, (((((h.2.1.put (Nat.le_refl _)).put (Nat.le_refl _)).put (Nat.le_refl _)).put (Nat.le_refl _)).put (Nat.le_refl _)).put (Nat.le_refl _)⟩
theorem six_cells {w : World} {b : Nat} {z0 z1 z2 z3 z4 z5 : Value} {t : TypeId} (h : w.heap[b]? = some (.cells #[z0, z1, z2, z3, z4, z5] t (0, 0))) : w.cell? ⟨b, 0, none⟩ = some z0 ∧ w.cell? ⟨b, 1, none⟩ = some z1 ∧ w.cell? ⟨b, 2, none⟩ = some z2 ∧ w.cell? ⟨b, 3, none⟩ = some z3 ∧ w.cell? ⟨b, 4, none⟩ = some z4 ∧ w.cell? ⟨b, 5, none⟩ = some z5 ∧ ∀ i, w.frozen? ⟨b, i, none⟩ = false := by
 refine ⟨?_, ?_, ?_, ?_, ?_, ?_, fun i => ?_⟩
 all_goals first | (simp only [World.cell?, h]; rfl) | simp [World.frozen?, h]
theorem Rd.set6 {w : World} {r b : Nat} {x0 x1 x2 x3 x4 x5 : Value} {ts : List Tok} {d : Nat} (h : Rd w r ts d) (hb : r < b) : Rd (set6 w b x0 x1 x2 x3 x4 x5) r ts d := (((((h.set hb).set hb).set hb).set hb).set hb).set hb
theorem vp_fin6 {w W0 W : World} {v : VT} {c0 c1 c2 c3 c4 x0 x1 x2 x3 x4 x5 : Value} (h : VP W (Fresh W0 W) v c0 c1 c2 c3 c4) (h0 : w.heap.size + 1 ≤ W0.heap.size) : VP (set6 W w.heap.size x0 x1 x2 x3 x4 x5) (Fresh w (set6 W w.heap.size x0 x1 x2 x3 x4 x5)) v c0 c1 c2 c3 c4 :=
 VP.keep (fun b hb => by
  have h1 := hb.1
  have h2 := hb.2
  exact ⟨⟨by omega, by rw [set6_size]; exact h2⟩, set6_other _ _ _ _ _ _ _ _ (by omega)⟩) _ _ _ _ _ _ h
theorem ret_mm {R : Ending → World → Prop} {fn : Func} {a : Act} {W : World} {c0 c1 c2 c3 c4 c5 : Value} {p b : Nat} (hf : fn.results = #[.cell p 98]) (h2 : a.tmps.getD p undef = .pointer (some ⟨b, 0, none⟩)) (hd : a.defers = [])
  (hc : W.heap[b]? = some (.cells #[c0, c1, c2, c3, c4, c5] 98 (0, 0))) (hR : R (.returned (.agg #[c0, c1, c2, c3, c4, c5])) W) : bodyPost Tryz.prog fn R .ret a W := by
 have hl : (loadVar 98 ⟨b, 0, none⟩).run Tryz.prog W = .ok (.agg #[c0, c1, c2, c3, c4, c5]) W :=
  run_loadVar_row W b 98 98 #[c0, c1, c2, c3, c4, c5] (0, 0) _ hc Tryz.underlying98 rfl (by kernel_rfl)
 refine bodyPost_ret ?_ hd hR
 have h2' : a.tmps[p]?.getD undef = .pointer (some ⟨b, 0, none⟩) := by rw [← h2]; simp
 simp [results, hf, h2', asAddr, hl]
set_option maxRecDepth 100000 in
set_option maxHeartbeats 8000000 in
theorem mem_step (f : Nat) (HV : ValC f) : MemC (f + 1) := by
 intro fx d ts r w hf hG hd hR hK
 have K0 := Hd (ResM.start hR.lt)
 have B0 := Hd ((Below.refl w.heap.size w).alloc (Nat.le_refl _) memZ)
 have R0 := Hd (hR.below B0.out)
 have D0 := Hd (hK.moved (Moved.of_below B0.out))
 have hsz : Hid ((w.alloc memZ).heap.size = w.heap.size + 1) := Hd (by simp)
 clear hR hK
 cases hn : nameR ts with
 | none =>
   have HP := fun wx (hx : Rd wx r ts d) => Hd (by have := pname_any r ts d wx hx; rw [hn] at this; exact this)
   rw [memR_none hn]
   show Calls _ _ _ _ fun e w' => e = PanicE 2 ∧ Moved r w w'
   clear hn hG
   go_enter Tryz.func187, Tryz.ntmps187
   go_wp2_with fail
   refine (HP _ R0.out).out.mono ?_
   rintro e w1 ⟨rfl, m1⟩
   exact ⟨rfl, rfl, K0.out.2.1.trans m1⟩
 | some p =>
   obtain ⟨nm, ts1⟩ := p
   have HP := fun wx (hx : Rd wx r ts d) => Hd (by have := pname_any r ts d wx hx; rw [hn] at this; exact this)
   have HN := Hd (hG.name hn)
   have hln := name_len hn
   clear hG
   cases hc : atB 1 colB ts1 with
   | false =>
     have HC := fun wx (hx : Rd wx r ts1 d) => Hd (by have := need_any r ts1 d 1 colB wx hx; rw [hc] at this; simp only [Bool.false_eq_true, if_false] at this; exact this)
     rw [memR_col hn hc]
     show Calls _ _ _ _ fun e w' => e = PanicE 2 ∧ Moved r w w'
     clear hn hc
     go_enter Tryz.func187, Tryz.ntmps187
     go_wp2_with fail
     refine (HP _ R0.out).out.mono ?_
     rintro e w1 ⟨rfl, r1, m1⟩
     have K1 := Hd (K0.out.next m1)
     have R1 := Hd r1
     clear r1 m1
     go_wp2_with fail
     refine (HC _ R1.out).out.mono ?_
     rintro e w2 ⟨rfl, m2⟩
     exact ⟨rfl, rfl, K1.out.2.1.trans m2⟩
   | true =>
     have HC := fun wx (hx : Rd wx r ts1 d) => Hd (by have := need_any r ts1 d 1 colB wx hx; rw [hc] at this; simp only [if_true] at this; exact this)
     have hlt := at_len hc
     have CV := fun wx (hx : Rd wx r ts1.tail d) (hd : KRd r wx) => Hd (HV fx d ts1.tail r wx (by omega) HN.out.2.tail (by assumption) hx hd)
     cases hv : valR f fx d ts1.tail with
     | error x =>
       rw [hv] at CV
       rw [memR_err hn hc hv]
       show Calls _ _ _ _ fun e w' => e = PanicE x ∧ Moved r w w'
       clear hn hc hv
       go_enter Tryz.func187, Tryz.ntmps187
       go_wp2_with fail
       refine (HP _ R0.out).out.mono ?_
       rintro e w1 ⟨rfl, r1, m1⟩
       have K1 := Hd (K0.out.next m1)
       have R1 := Hd r1
       have D1 := Hd (D0.out.moved m1)
       clear r1 m1
       go_wp2_with fail
       refine (HC _ R1.out).out.mono ?_
       rintro e w2 ⟨rfl, r2, m2⟩
       have K2 := Hd (K1.out.next m2)
       have R2 := Hd r2
       have D2 := Hd (D1.out.moved m2)
       clear r2 m2
       go_wp2_with fail
       refine (CV _ R2.out D2.out).out.mono ?_
       rintro e w3 ⟨rfl, m3⟩
       exact ⟨rfl, rfl, K2.out.2.1.trans m3⟩
     | ok p =>
       obtain ⟨v, ts2⟩ := p
       rw [hv] at CV
       rw [memR_ok hn hc hv]
       show Calls _ _ _ _ fun e w' => (∃ d0 d1 d2 d3 d4, e = .returned (.agg #[.string nm, d0, d1, d2, d3, d4]) ∧ nm.size ≤ 9000 ∧ VP w' (Fresh w w') v d0 d1 d2 d3 d4) ∧ Rd w' r ts2 d ∧ GoodT ts2 ∧ Moved r w w'
       clear hn hc hv
       go_enter Tryz.func187, Tryz.ntmps187
       go_wp2_with fail
       refine (HP _ R0.out).out.mono ?_
       rintro e w1 ⟨rfl, r1, m1⟩
       have K1 := Hd (K0.out.next m1)
       have R1 := Hd r1
       have D1 := Hd (D0.out.moved m1)
       have s1 := m1.size
       clear r1 m1
       go_wp2_with fail
       refine (HC _ R1.out).out.mono ?_
       rintro e w2 ⟨rfl, r2, m2⟩
       have K2 := Hd (K1.out.next m2)
       have R2 := Hd r2
       have D2 := Hd (D1.out.moved m2)
       have s2 := m2.size
       clear r2 m2
       go_wp2_with fail
       refine (CV _ R2.out D2.out).out.mono ?_
       rintro e w3 ⟨⟨d0, d1, d2, d3, d4, rfl, hvp⟩, r3, g3, m3⟩
       have HVP := Hd hvp
       have R3 := Hd (And.intro r3 g3)
       have K3 := Hd (K2.out.next m3)
       have HSZ := Hd (show w.heap.size + 1 ≤ w2.heap.size by have := hsz.out; omega)
       obtain ⟨vk, vn, vs, vl, vm⟩ := v
       unfold VP at hvp
       obtain ⟨rfl, rfl, rfl, _, ⟨A3, c3, rfl, _, _⟩, A4, c4, rfl, _, _⟩ := hvp
       obtain ⟨q0, q1, q2, q3, q4, q5, qz⟩ := six_cells K3.out.1
       have z0 := qz 0
       have z1 := qz 1
       have z2 := qz 2
       have z3 := qz 3
       have z4 := qz 4
       have z5 := qz 5
       clear r3 g3 m3 CV HC HP K0 K1 K2 R0 R1 R2 D0 D1 D2 qz s1 s2
       go_wp2_with fail
       refine ret_mm rfl rfl rfl (K3.out.fin _ _ _ _ _ _).1 ⟨⟨_, _, _, _, _, rfl, HN.out.1, vp_fin6 HVP.out HSZ.out⟩, R3.out.1.set6 K3.out.2.2, R3.out.2, (K3.out.fin _ _ _ _ _ _).2⟩
theorem RT.moved {base r q : Nat} {W W' : World} {V : Value} {l : VL} (h : RT base W V q l) (m : Moved r W W') (hr : r < base) : RT base W' V q l := by
 obtain ⟨xs, P, h1, h2, h3⟩ := h
 refine ⟨xs, P, World.ownsRow.kept h1 m ?_, h2.keep (fun b hb => ⟨hb, m.block b (h3 b hb).2.1 (fun e => by have := (h3 b hb).1; injection e; omega)⟩), fun b hb => ⟨(h3 b hb).1, Nat.lt_of_lt_of_le (h3 b hb).2.1 m.size, (h3 b hb).2.2⟩⟩
 cases e : V.ownBlock with
 | none => exact .inl rfl
 | some k => exact .inr (fun e' => by have := (h1.lt k e).1; injection e'; omega)
abbrev zeroV : Obj := .cells #[.int .i64 0, .int .i64 0, .string ⟨#[]⟩, .slice none 0 0, .slice none 0 0] 35
abbrev listO (V : Value) : Obj := .cells #[.int .i64 6, .int .i64 0, .string ⟨#[]⟩, V, .slice none 0 0] 35
def LK (w : World) (r : Nat) (W : World) (V : Value) (acc : VL) : Prop := W.heap[w.heap.size]? = some zeroV ∧ W.heap[w.heap.size + 1]? = some (listO V) ∧ RT (w.heap.size + 2) W V acc.len acc ∧ Moved r w W ∧ r < w.heap.size ∧ w.heap.size + 2 ≤ W.heap.size
theorem LK.next {w : World} {r : Nat} {W W' : World} {V : Value} {acc : VL} (h : LK w r W V acc) (m : Moved r W W') : LK w r W' V acc := by
 obtain ⟨h1, h2, h3, h4, h5, h6⟩ := h
 exact ⟨m.keep h1 (by omega), m.keep h2 (by omega), h3.moved m (by omega), h4.trans m, h5, Nat.le_trans h6 m.size⟩
theorem LK.start (w : World) (r : Nat) (hr : r < w.heap.size) : LK w r ((w.alloc zeroV).alloc (listO (.slice none 0 0))) (.slice none 0 0) .nil := by
 refine ⟨(Below.heap_alloc _ _ _ (by simp)).trans (heap_alloc_new _ _), heap_alloc2_new _ _ _, RT.start _ _, (Moved.of_below ((Below.refl _ _).alloc (Nat.le_refl _) _)).trans (Moved.of_below ((Below.refl _ _).alloc (Nat.le_refl _) _)), hr, by simp⟩
theorem itemsR_end {g : Nat} {fx : Bool} {d : Nat} {acc : VL} {ts : List Tok} (h : atB 1 cB ts = true) : itemsR (g + 1) fx d acc ts = .ok (acc, ts.tail) := by rw [itemsR, if_pos h]
theorem itemsR_err {g : Nat} {fx : Bool} {d : Nat} {acc : VL} {ts : List Tok} {e : Int} (h : atB 1 cB ts = false) (hv : valR g fx d ts = .error e) : itemsR (g + 1) fx d acc ts = .error e := by rw [itemsR, if_neg (by rw [h]; simp), hv]
theorem itemsR_next {g : Nat} {fx : Bool} {d : Nat} {acc : VL} {ts r : List Tok} {v : VT} (h : atB 1 cB ts = false) (hv : valR g fx d ts = .ok (v, r)) : itemsR (g + 1) fx d acc ts = itemsR g fx d (acc.snoc v) r := by rw [itemsR, if_neg (by rw [h]; simp), hv]
theorem list_app {w w3 w4 : World} {r : Nat} {V : Value} {acc : VL} {o : Obj} (h : LK w r w3 V acc) (hg : (w3.alloc o).grownBy w4 V.ownBlock) : w4.heap[w.heap.size]? = some zeroV ∧ w4.heap[w.heap.size + 1]? = some (listO V) ∧ Moved r w w4 := by
 have hlt := h.2.2.2.2.2
 have hr := h.2.2.2.2.1
 have hown : ∀ k, V.ownBlock = some k → w.heap.size + 2 ≤ k := by
   obtain ⟨xs, P, h1, _, _⟩ := h.2.2.1
   exact fun k hk => (h1.lt k hk).1
 have ha : (w3.alloc o).heap.size = w3.heap.size + 1 := by simp
 refine ⟨?_, ?_, ?_⟩
 · rw [hg.block _ (by omega) (fun e => by have := hown _ e.symm; omega), Below.heap_alloc _ _ _ (by omega)]; exact h.1
 · rw [hg.block _ (by omega) (fun e => by have := hown _ e.symm; omega), Below.heap_alloc _ _ _ (by omega)]; exact h.2.1
 · have m := h.2.2.2.1.trans (Moved.of_below (blw w3 o))
   exact ⟨hg.os.trans m.os, hg.tape.trans m.tape, hg.output.trans m.output, Nat.le_trans m.size hg.size, fun k hk hn => (hg.block k (Nat.lt_of_lt_of_le hk m.size) (fun e => by have := hown _ e.symm; omega)).trans (m.block k hk hn)⟩
theorem snoc_len : ∀ (l : VL) (v : VT), (l.snoc v).len = l.len + 1
 | .nil, _ => rfl
 | .cons u t, v => by rw [VL.snoc, VL.len, VL.len, snoc_len t v]
theorem set_other' {w : World} {b c : Nat} {j : Nat} {v : Value} {o : Obj} (h : w.heap[b]? = some o) (hne : b ≠ c) : (w.setCell ⟨c, j, none⟩ v).heap[b]? = some o := (Below.heap_setCell _ _ _ _ hne).trans h
theorem grown_keep {W W' : World} {r : Nat} {k : Option Nat} (hg : W.grownBy W' k) (hk : ∀ b, k = some b → r < b) : (∀ ts d, Rd W r ts d → Rd W' r ts d) ∧ (KRd r W → KRd r W') := by
 refine ⟨fun ts d h => ?_, fun h => ?_⟩
 · have hl := h.lt
   obtain ⟨A, c, h0, h1, h2, h3⟩ := h
   refine ⟨A, c, (hg.block r hl (fun e => by have := hk r e.symm; omega)).trans h0, h1, h2, fun j t ht => ?_⟩
   obtain ⟨b, o, e, hb, g0, g1⟩ := h3 j t ht
   have hs := hg.block b (by omega) (fun e => by have := hk b e.symm; omega)
   exact ⟨b, o, e, hb, (World.cell?_of_block (a := ⟨b, o + j * 2, none⟩) hs).trans g0, (World.cell?_of_block (a := ⟨b, o + j * 2 + 1, none⟩) hs).trans g1⟩
 · obtain ⟨w0, h0, hl, hb⟩ := h
   exact ⟨w0, h0, hl, ⟨hg.os.trans hb.os, hg.tape.trans hb.tape, hg.output.trans hb.output, Nat.le_trans hb.size hg.size, fun i hi => (hg.block i (Nat.lt_of_lt_of_le hi hb.size) (fun e => by have := hk i e.symm; omega)).trans (hb.block i hi)⟩⟩
theorem KRd.set {W : World} {r b i : Nat} {v : Value} (h : KRd r W) (hb : r < b) : KRd r (W.setCell ⟨b, i, none⟩ v) := by
 obtain ⟨w0, h0, hl, h⟩ := h
 exact ⟨w0, h0, hl, h.setCell (p := ⟨b, i, none⟩) (by show _ ≤ b; omega) v⟩
theorem rt_app {w2 w3 w4 : World} {base r cap g : Nat} {V : Value} {l : VL} {v : VT} {o : Obj} {xs : List Value} {P : Nat → Prop} {d0 d1 d2 d3 d4 : Value} (hr : r < base) (hbase : base ≤ w2.heap.size) (hown : w2.ownsRow base 35 5 V l.len xs) (hv : ValsL w2 P l xs) (hP : ∀ b, P b → base ≤ b ∧ b < w2.heap.size ∧ V.ownBlock ≠ some b) (m : Moved r w2 w3)
  (hd : VP w3 (fun b => w2.heap.size ≤ b ∧ b < w3.heap.size) v d0 d1 d2 d3 d4) (hown4 : w4.ownsRow base 35 5 (.slice (some ⟨g, 0, none⟩) (l.len + 1) cap) (l.len + 1) (xs ++ [d0, d1, d2, d3, d4])) (hg : (w3.alloc o).grownBy w4 V.ownBlock) (hat : V.ownBlock = some g ∨ g = (w3.alloc o).heap.size) :
  RT base w4 (.slice (some ⟨g, 0, none⟩) (l.len + 1) cap) (l.len + 1) (l.snoc v) := by
 have hs := m.size
 have hV : ∀ k, V.ownBlock = some k → k < w2.heap.size := fun k hk => (hown.lt k hk).2
 obtain ⟨h1, _, h3⟩ := step_blocks (wr := w3) (w2 := w3) (w4 := w4) (V := V) (g := g) (o := o) (P := fun b => P b ∨ (w2.heap.size ≤ b ∧ b < w3.heap.size)) (base := base) (Nat.le_trans hbase hs) (fun k hk => Nat.lt_of_lt_of_le (hV k hk) hs) (fun b hb => by
  rcases hb with hb | hb
  · exact ⟨(hP b hb).1, Nat.lt_of_lt_of_le (hP b hb).2.1 hs, (hP b hb).2.2⟩
  · exact ⟨Nat.le_trans hbase hb.1, hb.2, fun e => by have := hV b e; omega⟩) (Below.refl _ _) hg hat
 exact ⟨_, _, hown4, ValsL.snoc (VP.keep (fun b hb => h1 b (.inr hb)) _ _ _ _ _ _ hd) ((hv.keep (P' := fun b => P b ∨ (w2.heap.size ≤ b ∧ b < w3.heap.size)) (fun b hb => ⟨.inl hb, m.block b (hP b hb).2.1 (fun e => by have := (hP b hb).1; injection e; omega)⟩)).keep h1), h3⟩
theorem rt_own {W W' : World} {base r q : Nat} {V : Value} {xs : List Value} (h : W.ownsRow (base + 2) 35 5 V q xs) (m : Moved r W W') (hr : r < base) : W'.ownsRow (base + 2) 35 5 V q xs := by
 refine World.ownsRow.kept h m ?_
 cases e : V.ownBlock with
 | none => exact .inl rfl
 | some k => exact .inr (fun e' => by have := (h.lt k e).1; injection e'; omega)
set_option maxRecDepth 100000 in
set_option maxHeartbeats 8000000 in
theorem plist_any (f : Nat) (HV : ∀ g, g < f → ValC g) : ListC f := by
 intro fx d ts r w hf hG hd hb hR hK
 obtain ⟨i0, hi, hz0, hz1, hz2⟩ := info_parts info_val
 have K0 := Hd (LK.start w r hR.lt)
 have M0 := Hd ((Moved.of_below ((Below.refl w.heap.size w).alloc (Nat.le_refl _) zeroV)).trans (Moved.of_below ((Below.refl (w.alloc zeroV).heap.size (w.alloc zeroV)).alloc (Nat.le_refl _) (listO (.slice none 0 0)))) : Moved r w _)
 have R0 := Hd ((hR.below ((Below.refl w.heap.size w).alloc (Nat.le_refl _) zeroV)).below ((Below.refl (w.alloc zeroV).heap.size (w.alloc zeroV)).alloc (Nat.le_refl _) (listO (.slice none 0 0))))
 have D0 := Hd (hK.moved M0.out)
 have HE := Hd (enter_any r ts d oB _ (by omega) R0.out)
 rw [hb] at HE
 simp only [if_true] at HE
 have hlt := at_len hb
 have hgt := Hd hG.tail
 have HVV := Hd HV
 have hlen : ts.length ≤ 200000 := by obtain ⟨_, _, _, _, h, _⟩ := hR; exact h
 clear hR hK hb hG HV
 by_cases hd16 : d = 16
 · have hl : listR f fx d ts = .error 4 := by unfold listR; rw [if_pos hd16]
   rw [hl]
   simp only [hd16, if_true] at HE
   show Calls _ _ _ _ fun e w' => e = PanicE 4 ∧ Moved r w w'
   clear hl
   go_enter Tryz.func115, Tryz.ntmps115
   go_wp2_with fail
   refine HE.out.mono ?_
   rintro e w1 ⟨rfl, m1⟩
   exact ⟨rfl, rfl, K0.out.2.2.2.1.trans m1⟩
 · have hl : listR f fx d ts = itemsR f fx (d + 1) .nil ts.tail := by unfold listR; rw [if_neg hd16]
   rw [hl]
   simp only [hd16, if_false] at HE
   obtain ⟨RES, hRES⟩ : ∃ RES, itemsR f fx (d + 1) .nil ts.tail = RES := ⟨_, rfl⟩
   rw [hRES]
   have HRES := Hd hRES
   have hd15 : d + 1 ≤ 16 := by omega
   obtain ⟨d1, hd1⟩ : ∃ d1, d + 1 = d1 := ⟨_, rfl⟩
   have HD1 := Hd hd1
   rw [hd1] at HE HRES hd15
   obtain ⟨ts0, hts0⟩ : ∃ ts0, ts.tail = ts0 := ⟨_, rfl⟩
   rw [hts0] at HE HRES hgt hlt
   clear hl hRES hd16 hd1 hts0
   go_enter Tryz.func115, Tryz.ntmps115
   go_wp2_with fail
   refine HE.out.mono ?_
   rintro e w1 ⟨rfl, r1, m1⟩
   have K1 := Hd (K0.out.next m1)
   have R1 := Hd r1
   have D1 := Hd (D0.out.moved m1)
   clear r1 m1 K0 R0 D0 M0 HE
   go_wp2_with fail
   go_loopg [] f (fun g wx => ∃ (acc : VL) (tq : List Tok) (V : Value), 2 * tq.length + 2 ≤ g ∧ acc.len + tq.length ≤ 200000 ∧ Aside (LK w r wx V acc ∧ Rd wx r tq d1 ∧ KRd r wx ∧ GoodT tq ∧ itemsR g fx d1 acc tq = RES ∧ g ≤ f))
   case atStart => exact ⟨.nil, ts0, .slice none 0 0, by omega, by rw [VL.len]; omega, vaside ⟨K1.out, R1.out, D1.out, hgt.out, HRES.out, Nat.le_refl _⟩⟩
   case round =>
    obtain ⟨acc, tq, V, hq, hal, HA⟩ := hrel
    have KX := Hd HA.out.1
    have RX := Hd HA.out.2.1
    have DX := Hd HA.out.2.2.1
    have GX := Hd HA.out.2.2.2.1
    have EX := Hd HA.out.2.2.2.2.1
    have hgf := HA.out.2.2.2.2.2
    clear HA K1 R1 D1
    cases gk with
    | zero => omega
    | succ g =>
      have HS := Hd (skip_any r tq d1 1 cB _ RX.out)
      cases hc : atB 1 cB tq with
      | true =>
        have hst : skipT 1 cB tq = tq.tail := by unfold skipT; rw [hc]; rfl
        rw [hst, hc] at HS
        have he := EX.out
        rw [itemsR_end hc] at he
        have hgq := Hd GX.out.tail
        subst he
        clear hst hc EX HRES
        go_wp2_with fail
        refine HS.out.mono ?_
        rintro e w2 ⟨rfl, r2, m2⟩
        have K2 := Hd (KX.out.next m2)
        have R2 := Hd r2
        clear r2 m2
        go_wp2_with fail
        have HL := Hd (leave_any r tq.tail d _ (by omega) (by rw [HD1.out]; exact R2.out))
        refine HL.out.mono ?_
        rintro e w3 ⟨rfl, r3, m3⟩
        have K3 := Hd (K2.out.next m3)
        have R3 := Hd r3
        clear r3 m3 HL K2 R2
        obtain ⟨xs, P, hown, hvals, hP⟩ := K3.out.2.2.1
        obtain ⟨Ao, co, rfl⟩ := shape_own hown
        obtain ⟨A6, c6, e6, hL6⟩ := row_list hown hvals
        injection e6 with e6 _ e7
        subst e6 e7
        have HL6 := Hd (And.intro hL6 (And.intro hP (fun b hb => hown.lt b hb)))
        obtain ⟨k0, k1, k2, k3, k4, kz⟩ := gvc K3.out.2.1
        obtain ⟨j0, j1, j2, j3, j4, jz⟩ := gvc K3.out.1
        have z0 := jz 0
        have z1 := jz 1
        have z2 := jz 2
        have z3 := jz 3
        have z4 := jz 4
        have hlw : acc.len ≤ 200000 := by omega
        clear kz jz hown hvals hP hL6
        go_wp2_with fail
        have hr5 := K3.out.2.2.2.2.1
        refine ret_v1 rfl rfl rfl (five_set K3.out.1) ⟨⟨_, _, _, _, _, rfl, ?_⟩, R3.out.set5 hr5, hgq.out, ((((K3.out.2.2.2.1.put (Nat.le_refl _)).put (Nat.le_refl _)).put (Nat.le_refl _)).put (Nat.le_refl _)).put (Nat.le_refl _)⟩
        unfold VP
        refine ⟨rfl, rfl, rfl, Nat.zero_le _, ⟨_, _, rfl, by omega, LP.keep (fun b hb => ?_) _ _ _ HL6.out.1⟩, none, 0, rfl, Nat.zero_le _, by unfold MP; trivial⟩
        have hbb : w.heap.size + 2 ≤ b ∧ b < w3.heap.size := by
          rcases hb with hb | hb
          · exact ⟨(HL6.out.2.1 b hb).1, (HL6.out.2.1 b hb).2.1⟩
          · exact HL6.out.2.2 b hb
        exact ⟨⟨by omega, Nat.lt_of_lt_of_eq hbb.2 (set5_size w3 w.heap.size _ _ _ _ _).symm⟩, set5_other w3 w.heap.size _ _ _ _ _ (by omega)⟩
      | false =>
        have hst : skipT 1 cB tq = tq := by unfold skipT; rw [hc]; rfl
        rw [hst, hc] at HS
        have CV := fun wx (hx : Rd wx r tq d1) (hk : KRd r wx) => Hd (HVV.out g (by omega) fx d1 tq r wx (by omega) GX.out (by omega) hx hk)
        clear hst
        cases hv : valR g fx d1 tq with
        | error x =>
          rw [hv] at CV
          have he := EX.out
          rw [itemsR_err hc hv] at he
          subst he
          clear hc hv EX HRES
          go_wp2_with fail
          refine HS.out.mono ?_
          rintro e w2 ⟨rfl, r2, m2⟩
          have K2 := Hd (KX.out.next m2)
          have R2 := Hd r2
          have D2 := Hd (DX.out.moved m2)
          have W2 := Hd (Moved.of_below (r := r) (Below.drew (Below.refl w2.heap.size w2)))
          clear r2 m2
          obtain ⟨k0, k1, k2, k3, k4, kz⟩ := gvc K2.out.2.1
          have z3 := kz 3
          clear kz
          go_wp2_with fail
          refine wp_region_held_drew (S := fun _ => True) (by kernel_rfl) trivial (fun _ => ?_)
          refine wpAnyH_take (i := 0) (v := ?_) rfl (by kernel_rfl) (by kernel_rfl) (by kernel_rfl) (fun _ _ _ h => h) (Or.inl ⟨by rfl, ?_⟩) trivial ?_
          rotate_left
          · (intro w _; go_simp; try with_reducible rfl)
          simp only [Act.put, List.setIfInBounds_toArray]
          refine wpAnyH_take (i := 2) (v := ?_) rfl (by kernel_rfl) (by kernel_rfl) (by kernel_rfl) (fun _ _ _ h => h) (Or.inl ⟨by rfl, ?_⟩) trivial ?_
          rotate_left
          · (intro w _; go_simp; try with_reducible rfl)
          simp only [Act.put]
          refine wpAnyH_take (i := 3) (v := ?_) rfl (by kernel_rfl) (by kernel_rfl) (by kernel_rfl) (fun _ _ _ h => h) (Or.inl ⟨by rfl, ?_⟩) trivial ?_
          rotate_left
          · (intro w _; go_simp; try with_reducible rfl)
          simp only [Act.put]
          refine wpAnyH_ready (rs := [1, 4]) (by kernel_rfl) (by simp) ?_
          refine AllReadyH.cons rfl (fun K hK => ?_) ?_
          · go_simp
            refine hK.out _ _ trivial (fun _ => ?_)
            clear hK K
            try simp only [Act.put, stT, stZ, stS]
            refine wpAnyH_ready (rs := [4]) (by kernel_rfl) (by simp) ?_
            refine AllReadyH.cons rfl (fun K hK => ?_) AllReadyH.nil
            go_simp
            go_at_call 49
            refine (CV _ (R2.out.below (Below.drew (Below.refl _ _))) (D2.out.moved W2.out)).out.mono ?_
            rintro e w3 ⟨rfl, m3⟩
            exact ⟨rfl, rfl, K2.out.2.2.2.1.trans (W2.out.trans m3)⟩
          refine AllReadyH.cons rfl (fun K hK => ?_) AllReadyH.nil
          go_simp
          go_at_call 49
          refine (CV _ (R2.out.below (Below.drew (Below.refl _ _))) (D2.out.moved W2.out)).out.mono ?_
          rintro e w3 ⟨rfl, m3⟩
          exact ⟨rfl, rfl, K2.out.2.2.2.1.trans (W2.out.trans m3)⟩
        | ok p =>
          obtain ⟨v, tq2⟩ := p
          rw [hv] at CV
          have he := EX.out
          rw [itemsR_next hc hv] at he
          have HRE := Hd he
          have hless := (read_less g).1 _ _ _ _ _ hv
          clear hc hv he
          go_wp2_with fail
          refine HS.out.mono ?_
          rintro e w2 ⟨rfl, r2, m2⟩
          have K2 := Hd (KX.out.next m2)
          have R2 := Hd r2
          have D2 := Hd (DX.out.moved m2)
          clear r2 m2
          obtain ⟨k0, k1, k2, k3, k4, kz⟩ := gvc K2.out.2.1
          have z3 := kz 3
          clear kz
          have W2 := Hd (Moved.of_below (r := r) (Below.drew (Below.refl w2.heap.size w2)))
          have hshape := K2.out.2.2.1
          obtain ⟨xs, P, hown, hvals, hP⟩ := hshape
          obtain ⟨Ao, co, rfl⟩ := shape_own hown
          have HRT := Hd (And.intro hown (And.intro hvals hP))
          clear hown hvals hP
          go_wp2_with fail
          refine wp_region_held_drew (S := fun _ => True) (by kernel_rfl) trivial (fun _ => ?_)
          refine wpAnyH_take (i := 0) (v := ?_) rfl (by kernel_rfl) (by kernel_rfl) (by kernel_rfl) (fun _ _ _ h => h) (Or.inl ⟨by rfl, ?_⟩) trivial ?_
          rotate_left
          · (intro w _; go_simp; try with_reducible rfl)
          simp only [Act.put, List.setIfInBounds_toArray]
          refine wpAnyH_take (i := 2) (v := ?_) rfl (by kernel_rfl) (by kernel_rfl) (by kernel_rfl) (fun _ _ _ h => h) (Or.inl ⟨by rfl, ?_⟩) trivial ?_
          rotate_left
          · (intro w _; go_simp; try with_reducible rfl)
          simp only [Act.put]
          refine wpAnyH_take (i := 3) (v := ?_) rfl (by kernel_rfl) (by kernel_rfl) (by kernel_rfl) (fun _ _ _ h => h) (Or.inl ⟨by rfl, ?_⟩) trivial ?_
          rotate_left
          · (intro w _; go_simp; try with_reducible rfl)
          simp only [Act.put]
          refine wpAnyH_ready (rs := [1, 4]) (by kernel_rfl) (by simp) ?_
          refine AllReadyH.cons rfl (fun K hK => ?_) ?_
          · go_simp
            refine hK.out _ _ trivial (fun _ => ?_)
            clear hK K
            try simp only [Act.put, stT, stZ, stS]
            refine wpAnyH_ready (rs := [4]) (by kernel_rfl) (by simp) ?_
            refine AllReadyH.cons rfl (fun K hK => ?_) AllReadyH.nil
            go_simp
            go_at_call 49
            refine (CV _ (R2.out.below (Below.drew (Below.refl _ _))) (D2.out.moved W2.out)).out.mono ?_
            rintro e w3 ⟨⟨d0, d1', d2, d3, d4, rfl, hvp⟩, r3, g3, m3⟩
            have HVP := Hd hvp
            obtain ⟨vk, vn, vs, vl, vm⟩ := v
            unfold VP at hvp
            obtain ⟨rfl, rfl, rfl, _, ⟨A3, c3, rfl, _, _⟩, A4, c4, rfl, _, _⟩ := hvp
            have HM3 := Hd (W2.out.trans m3)
            have R3 := Hd (And.intro r3 g3)
            have K3 := Hd (K2.out.next HM3.out)
            have HM4 := Hd m3
            clear r3 g3 m3
            obtain ⟨j0, j1, j2, j3, j4, jz⟩ := gvc K3.out.2.1
            have y3 := jz 3
            have jA := fun o => (World.cell?_of_block (a := ⟨w.heap.size + 1, 3, none⟩) (Below.heap_alloc w3 o _ (Nat.lt_of_succ_le K3.out.2.2.2.2.2))).trans j3
            clear jz k0 k1 k2 k3 k4 z3
            go_wp2_with fail
            refine hK.out _ _ trivial (fun _ => ?_)
            clear hK K
            try simp only [Act.put, stT, stZ, stS]
            refine wpAnyH_ready (rs := [5]) (by kernel_rfl) (by simp) ?_
            refine AllReadyH.cons rfl (fun K hK => ?_) AllReadyH.nil
            go_simp
            refine hK.out _ _ trivial (fun _ => ?_)
            clear hK K
            try simp only [Act.put, stT, stZ, stS]
            refine wpAnyH_ready (rs := [6]) (by kernel_rfl) (by simp) ?_
            refine AllReadyH.cons rfl (fun K hK => ?_) AllReadyH.nil
            refine step_append_lies _ (by rfl) _ _ 32 (by rfl) (w.heap.size + 2) 35 i0 (.agg #[.int .i64 0, .int .i64 0, .string ⟨#[]⟩, .slice none 0 0, .slice none 0 0]) 5 80 Tryz.underlying32 hi hz0 hz1 hz2 (by rfl) (by decide) _ acc.len xs (by rfl) (own_low (rt_own HRT.out.1 HM3.out K2.out.2.2.2.2.1) ((Below.refl _ _).alloc (Nat.le_refl _) _)) _ 1 1 [.int .i64 vk, .int .i64 vn, .string vs, .slice A3 vl.len c3, .slice A4 vm.len c4] (by rfl) (by rfl) (five_new _ _ _ _ _ _ _ (by first | rfl | (simp; done))) (by intro y hy; simp at hy; rcases hy with rfl | rfl | rfl | rfl | rfl <;> rfl) (by decide) (by unfold maxLen; omega) (by omega) (by have h1 := K2.out.2.2.2.2.2; have h2 := HM3.out.size; simp; omega) _ (by rfl) ?_
            intro gg cap2 w4 hown4 hgrow hat hlt4
            have HG4 := Hd hgrow
            have HO4 := Hd hown4
            have HT4 := Hd hat
            have HL4 := Hd (list_app K3.out hgrow)
            obtain ⟨x0, x1, x2, x3, x4, xz⟩ := gvc HL4.out.2.1
            have u3 := xz 3
            clear hgrow hown4 hat xz j0 j1 j2 j3 j4 y3 jA
            refine hK.out _ _ trivial (fun _ => ?_)
            clear hK K
            simp only [Act.put, List.setIfInBounds_toArray]
            refine wpAnyH_ready (rs := [7]) (by kernel_rfl) (by simp) ?_
            refine AllReadyH.cons rfl (fun K hK => ?_) AllReadyH.nil
            go_simp
            refine hK.out _ _ trivial (fun _ => ?_)
            clear hK K
            try simp only [Act.put, stT, stZ, stS]
            refine wpAnyH_ready (rs := [8]) (by kernel_rfl) (by simp) ?_
            refine AllReadyH.cons rfl (fun K hK => ?_) AllReadyH.nil
            go_simp
            refine hK.out _ _ trivial (fun _ => ?_)
            clear hK K
            try simp only [Act.put, stT, stZ, stS]
            refine wpAnyH_done (by kernel_rfl) ?_ _
            go_wp2_with fail
            have hr0 := K2.out.2.2.2.2.1
            have G5 := grown_keep HG4.out (r := r) (fun b hb => by have := (HRT.out.1.lt b hb).1; omega)
            have R4 := (G5.1 _ _ (R3.out.1.below (blw _ _))).set (b := w.heap.size + 1) (i := 3) (v := .slice (some ⟨gg, 0, none⟩) (acc.len + 1) cap2) (by omega)
            have D4 := (G5.2 ((D2.out.moved HM3.out).moved (Moved.of_below (blw _ _)))).set (b := w.heap.size + 1) (i := 3) (v := .slice (some ⟨gg, 0, none⟩) (acc.len + 1) cap2) (by omega)
            have T4 := rt_app (by omega) K2.out.2.2.2.2.2 HRT.out.1 HRT.out.2.1 HRT.out.2.2 HM3.out HVP.out HO4.out HG4.out HT4.out
            go_roundg g
            case measure => omega
            case rel => exact ⟨acc.snoc (.mk vk vn vs vl vm), tq2, _, by omega, by rw [snoc_len]; omega, vaside ⟨⟨set_other' HL4.out.1 (by omega), heap_setCell_same _ _ 3 _ _ _ HL4.out.2.1, by rw [snoc_len]; exact T4.moved Moved.set (by omega), HL4.out.2.2.put (Nat.le_succ _), hr0, by have h1 := K2.out.2.2.2.2.2; have h2 := HM3.out.size; have h3 := HG4.out.size; simp [World.setCell] at h3 ⊢; omega⟩, R4, D4, R3.out.2, HRE.out, by omega⟩⟩
          refine AllReadyH.cons rfl (fun K hK => ?_) AllReadyH.nil
          go_simp
          go_at_call 49
          refine (CV _ (R2.out.below (Below.drew (Below.refl _ _))) (D2.out.moved W2.out)).out.mono ?_
          rintro e w3 ⟨⟨d0, d1', d2, d3, d4, rfl, hvp⟩, r3, g3, m3⟩
          have HVP := Hd hvp
          obtain ⟨vk, vn, vs, vl, vm⟩ := v
          unfold VP at hvp
          obtain ⟨rfl, rfl, rfl, _, ⟨A3, c3, rfl, _, _⟩, A4, c4, rfl, _, _⟩ := hvp
          have HM3 := Hd (W2.out.trans m3)
          have R3 := Hd (And.intro r3 g3)
          have K3 := Hd (K2.out.next HM3.out)
          have HM4 := Hd m3
          clear r3 g3 m3
          obtain ⟨j0, j1, j2, j3, j4, jz⟩ := gvc K3.out.2.1
          have y3 := jz 3
          have jA := fun o => (World.cell?_of_block (a := ⟨w.heap.size + 1, 3, none⟩) (Below.heap_alloc w3 o _ (Nat.lt_of_succ_le K3.out.2.2.2.2.2))).trans j3
          clear jz k0 k1 k2 k3 k4 z3
          go_wp2_with fail
          refine hK.out _ _ trivial (fun _ => ?_)
          clear hK K
          try simp only [Act.put, stT, stZ, stS]
          refine wpAnyH_ready (rs := [1, 5]) (by kernel_rfl) (by simp) ?_
          refine AllReadyH.cons rfl (fun K hK => ?_) ?_
          · go_simp
            refine hK.out _ _ trivial (fun _ => ?_)
            clear hK K
            try simp only [Act.put, stT, stZ, stS]
            refine wpAnyH_ready (rs := [5]) (by kernel_rfl) (by simp) ?_
            refine AllReadyH.cons rfl (fun K hK => ?_) AllReadyH.nil
            go_simp
            refine hK.out _ _ trivial (fun _ => ?_)
            clear hK K
            try simp only [Act.put, stT, stZ, stS]
            refine wpAnyH_ready (rs := [6]) (by kernel_rfl) (by simp) ?_
            refine AllReadyH.cons rfl (fun K hK => ?_) AllReadyH.nil
            refine step_append_lies _ (by rfl) _ _ 32 (by rfl) (w.heap.size + 2) 35 i0 (.agg #[.int .i64 0, .int .i64 0, .string ⟨#[]⟩, .slice none 0 0, .slice none 0 0]) 5 80 Tryz.underlying32 hi hz0 hz1 hz2 (by rfl) (by decide) _ acc.len xs (by rfl) (own_low (rt_own HRT.out.1 HM3.out K2.out.2.2.2.2.1) ((Below.refl _ _).alloc (Nat.le_refl _) _)) _ 1 1 [.int .i64 vk, .int .i64 vn, .string vs, .slice A3 vl.len c3, .slice A4 vm.len c4] (by rfl) (by rfl) (five_new _ _ _ _ _ _ _ (by first | rfl | (simp; done))) (by intro y hy; simp at hy; rcases hy with rfl | rfl | rfl | rfl | rfl <;> rfl) (by decide) (by unfold maxLen; omega) (by omega) (by have h1 := K2.out.2.2.2.2.2; have h2 := HM3.out.size; simp; omega) _ (by rfl) ?_
            intro gg cap2 w4 hown4 hgrow hat hlt4
            have HG4 := Hd hgrow
            have HO4 := Hd hown4
            have HT4 := Hd hat
            have HL4 := Hd (list_app K3.out hgrow)
            obtain ⟨x0, x1, x2, x3, x4, xz⟩ := gvc HL4.out.2.1
            have u3 := xz 3
            clear hgrow hown4 hat xz j0 j1 j2 j3 j4 y3 jA
            refine hK.out _ _ trivial (fun _ => ?_)
            clear hK K
            simp only [Act.put, List.setIfInBounds_toArray]
            refine wpAnyH_ready (rs := [7]) (by kernel_rfl) (by simp) ?_
            refine AllReadyH.cons rfl (fun K hK => ?_) AllReadyH.nil
            go_simp
            refine hK.out _ _ trivial (fun _ => ?_)
            clear hK K
            try simp only [Act.put, stT, stZ, stS]
            refine wpAnyH_ready (rs := [8]) (by kernel_rfl) (by simp) ?_
            refine AllReadyH.cons rfl (fun K hK => ?_) AllReadyH.nil
            go_simp
            refine hK.out _ _ trivial (fun _ => ?_)
            clear hK K
            try simp only [Act.put, stT, stZ, stS]
            refine wpAnyH_done (by kernel_rfl) ?_ _
            go_wp2_with fail
            have hr0 := K2.out.2.2.2.2.1
            have G5 := grown_keep HG4.out (r := r) (fun b hb => by have := (HRT.out.1.lt b hb).1; omega)
            have R4 := (G5.1 _ _ (R3.out.1.below (blw _ _))).set (b := w.heap.size + 1) (i := 3) (v := .slice (some ⟨gg, 0, none⟩) (acc.len + 1) cap2) (by omega)
            have D4 := (G5.2 ((D2.out.moved HM3.out).moved (Moved.of_below (blw _ _)))).set (b := w.heap.size + 1) (i := 3) (v := .slice (some ⟨gg, 0, none⟩) (acc.len + 1) cap2) (by omega)
            have T4 := rt_app (by omega) K2.out.2.2.2.2.2 HRT.out.1 HRT.out.2.1 HRT.out.2.2 HM3.out HVP.out HO4.out HG4.out HT4.out
            go_roundg g
            case measure => omega
            case rel => exact ⟨acc.snoc (.mk vk vn vs vl vm), tq2, _, by omega, by rw [snoc_len]; omega, vaside ⟨⟨set_other' HL4.out.1 (by omega), heap_setCell_same _ _ 3 _ _ _ HL4.out.2.1, by rw [snoc_len]; exact T4.moved Moved.set (by omega), HL4.out.2.2.put (Nat.le_succ _), hr0, by have h1 := K2.out.2.2.2.2.2; have h2 := HM3.out.size; have h3 := HG4.out.size; simp [World.setCell] at h3 ⊢; omega⟩, R4, D4, R3.out.2, HRE.out, by omega⟩⟩
          refine AllReadyH.cons rfl (fun K hK => ?_) AllReadyH.nil
          go_simp
          refine hK.out _ _ trivial (fun _ => ?_)
          clear hK K
          try simp only [Act.put, stT, stZ, stS]
          refine wpAnyH_ready (rs := [1]) (by kernel_rfl) (by simp) ?_
          refine AllReadyH.cons rfl (fun K hK => ?_) AllReadyH.nil
          go_simp
          refine hK.out _ _ trivial (fun _ => ?_)
          clear hK K
          try simp only [Act.put, stT, stZ, stS]
          refine wpAnyH_ready (rs := [6]) (by kernel_rfl) (by simp) ?_
          refine AllReadyH.cons rfl (fun K hK => ?_) AllReadyH.nil
          refine step_append_lies _ (by rfl) _ _ 32 (by rfl) (w.heap.size + 2) 35 i0 (.agg #[.int .i64 0, .int .i64 0, .string ⟨#[]⟩, .slice none 0 0, .slice none 0 0]) 5 80 Tryz.underlying32 hi hz0 hz1 hz2 (by rfl) (by decide) _ acc.len xs (by rfl) (own_low (rt_own HRT.out.1 HM3.out K2.out.2.2.2.2.1) ((Below.refl _ _).alloc (Nat.le_refl _) _)) _ 1 1 [.int .i64 vk, .int .i64 vn, .string vs, .slice A3 vl.len c3, .slice A4 vm.len c4] (by rfl) (by rfl) (five_new _ _ _ _ _ _ _ (by first | rfl | (simp; done))) (by intro y hy; simp at hy; rcases hy with rfl | rfl | rfl | rfl | rfl <;> rfl) (by decide) (by unfold maxLen; omega) (by omega) (by have h1 := K2.out.2.2.2.2.2; have h2 := HM3.out.size; simp; omega) _ (by rfl) ?_
          intro gg cap2 w4 hown4 hgrow hat hlt4
          have HG4 := Hd hgrow
          have HO4 := Hd hown4
          have HT4 := Hd hat
          have HL4 := Hd (list_app K3.out hgrow)
          obtain ⟨x0, x1, x2, x3, x4, xz⟩ := gvc HL4.out.2.1
          have u3 := xz 3
          clear hgrow hown4 hat xz j0 j1 j2 j3 j4 y3 jA
          refine hK.out _ _ trivial (fun _ => ?_)
          clear hK K
          simp only [Act.put, List.setIfInBounds_toArray]
          refine wpAnyH_ready (rs := [7]) (by kernel_rfl) (by simp) ?_
          refine AllReadyH.cons rfl (fun K hK => ?_) AllReadyH.nil
          go_simp
          refine hK.out _ _ trivial (fun _ => ?_)
          clear hK K
          try simp only [Act.put, stT, stZ, stS]
          refine wpAnyH_ready (rs := [8]) (by kernel_rfl) (by simp) ?_
          refine AllReadyH.cons rfl (fun K hK => ?_) AllReadyH.nil
          go_simp
          refine hK.out _ _ trivial (fun _ => ?_)
          clear hK K
          try simp only [Act.put, stT, stZ, stS]
          refine wpAnyH_done (by kernel_rfl) ?_ _
          go_wp2_with fail
          have hr0 := K2.out.2.2.2.2.1
          have G5 := grown_keep HG4.out (r := r) (fun b hb => by have := (HRT.out.1.lt b hb).1; omega)
          have R4 := (G5.1 _ _ (R3.out.1.below (blw _ _))).set (b := w.heap.size + 1) (i := 3) (v := .slice (some ⟨gg, 0, none⟩) (acc.len + 1) cap2) (by omega)
          have D4 := (G5.2 ((D2.out.moved HM3.out).moved (Moved.of_below (blw _ _)))).set (b := w.heap.size + 1) (i := 3) (v := .slice (some ⟨gg, 0, none⟩) (acc.len + 1) cap2) (by omega)
          have T4 := rt_app (by omega) K2.out.2.2.2.2.2 HRT.out.1 HRT.out.2.1 HRT.out.2.2 HM3.out HVP.out HO4.out HG4.out HT4.out
          go_roundg g
          case measure => omega
          case rel => exact ⟨acc.snoc (.mk vk vn vs vl vm), tq2, _, by omega, by rw [snoc_len]; omega, vaside ⟨⟨set_other' HL4.out.1 (by omega), heap_setCell_same _ _ 3 _ _ _ HL4.out.2.1, by rw [snoc_len]; exact T4.moved Moved.set (by omega), HL4.out.2.2.put (Nat.le_succ _), hr0, by have h1 := K2.out.2.2.2.2.2; have h2 := HM3.out.size; have h3 := HG4.out.size; simp [World.setCell] at h3 ⊢; omega⟩, R4, D4, R3.out.2, HRE.out, by omega⟩⟩
end Go.Proofs.YtpkmbhnikilihaaGreatDoor
