/- The document's own Field. -/
import Derived.Test.YtiponpcglienpaaDfRef2
import Derived.Test.YtiponpcglienpaaDfField
namespace Go.Proofs.Ytiponpcglienpaa
open Go.RowKit

theorem isD_two {l : List DefnT} {t : ByteArray} : isD l t [1, 2] = ((findD l t).2 && ((findD l t).1.kind == 1 || (findD l t).1.kind == 2)) := by
  unfold isD hasI
  simp only [List.any_cons, List.any_nil, Bool.or_false]
  congr 1
  rw [Bool.eq_iff_iff]
  simp
  constructor
  · rintro (h | h) <;> simp [h]
  · rintro (h | h) <;> simp [h]
theorem find_zero {l : List DefnT} {n : ByteArray} (h : (findD l n).2 = false) : (findD l n).1.kind = 0 := by
  unfold findD at h ⊢
  split
  · rfl
  · rename_i e
    rw [if_neg e] at h
    induction l with
    | nil => rfl
    | cons d t ih =>
      rw [findL] at h ⊢
      split
      · rename_i e2; rw [if_pos e2] at h; cases h
      · rename_i e2; rw [if_neg e2] at h; exact ih h
def FoundB (x : FieldT × Bool) (B : Nat) (w : World) (e : Ending) (w' : World) : Prop :=
  ∃ c0 c1 c2 c3 c4 c5, e = .returned (.tuple #[.agg #[c0, c1, c2, c3, c4, c5], .bool x.2]) ∧ TS w' (fun b => b < B) (encField x.1) [c0, c1, c2, c3, c4, c5] ∧ Below w.heap.size w w'
set_option maxRecDepth 100000 in
set_option maxHeartbeats 8000000 in
theorem rfield_any (S : SchT) (t n : ByteArray) (c0 c1 c2 : Value) (w : World) (B : Nat) (hB : B ≤ w.heap.size) (ht : t.size ≤ 9223372036854775807) (hS : TS w (fun b => b < B) (encSch S) [c0, c1, c2]) :
    Calls Try.prog 26 #[.agg #[c0, c1, c2], .string t, .string n] w (FoundB (fieldD S.defs t n) B w) := by
  have F := Lib.hid (fun (wx : World) (hb : Below w.heap.size w wx) => rfind_any S t c0 c1 c2 wx B (Nat.le_trans hB hb.size) ht (TS.low (hb.mono hB) hS))
  have CC := Lib.hid (fun (wx : World) (hb : Below w.heap.size w wx) => rcomposite_any S t c0 c1 c2 wx B (Nat.le_trans hB hb.size) ht (TS.low (hb.mono hB) hS))
  have HB := Lib.hid hB
  obtain ⟨A, k, e, _⟩ := sch_cells hS
  injection e with e0 e
  injection e with e1 e
  injection e with e2 e
  subst e0 e1 e2
  clear hB e ht hS
  have X0 := Lib.hid (FR.start w (.slice A S.defs.length k) (.string S.query) (.string S.mutation) (.cells #[.string ⟨#[]⟩, .slice none 0 0, .string ⟨#[]⟩, .int .i64 0, .int .i64 0, .slice none 0 0] 44))
  have HQ : Hid (fieldD S.defs t n = if (n.toList == [95, 95, 116, 121, 112, 101, 110, 97, 109, 101]) = true ∧ compD S.defs t = true then (⟨tnameB, [], strB, 0, 1, []⟩, true)
      else if ((findD S.defs t).2 && ((findD S.defs t).1.kind == 1 || (findD S.defs t).1.kind == 2)) = true then fieldL (findD S.defs t).1.fields n else (zeroF, false)) := Lib.hid (by unfold fieldD; rw [isD_two])
  have HZ0 := Lib.hid (fun h => find_zero (l := S.defs) (n := t) h)
  generalize fieldD S.defs t n = Q at HQ ⊢
  generalize findD S.defs t = x at HQ F HZ0
  cases e1 : (n.toList == [95, 95, 116, 121, 112, 101, 110, 97, 109, 101])
  case' false =>
    go_enter Try.func26, Try.ntmps26
    go_upto_region 3 with fail
    have HQ : Hid (Q = if (x.2 && (x.1.kind == 1 || x.1.kind == 2)) = true then fieldL x.1.fields n else (zeroF, false)) := Lib.hid (HQ.out.trans (by rw [e1, if_neg (by simp)]))
    have X1 := Lib.hid X0.out
    generalize ((w.alloc (.cells #[.slice A S.defs.length k, .string S.query, .string S.mutation] 24)).alloc (.cells #[.string ⟨#[]⟩, .slice none 0 0, .string ⟨#[]⟩, .int .i64 0, .int .i64 0, .slice none 0 0] 44)) = wa at X1 ⊢
    clear X0 e1
  case' true =>
    go_enter Try.func26, Try.ntmps26
    obtain ⟨z0, z1, z2⟩ := three_cells X0.out.box
    go_wp2_with fail
    refine (CC.out _ X0.out.low).mono ?_
    clear z0 z1 z2
    rintro e wa ⟨rfl, hb1⟩
    have X1 := Lib.hid (X0.out.next hb1)
    clear hb1
    cases e2 : compD S.defs t
    case' true =>
      have hQ : Q = (⟨tnameB, [], strB, 0, 1, []⟩, true) := HQ.out.trans (by rw [e1, e2, if_pos ⟨rfl, rfl⟩])
      have hnn : n = tnameB := by
        have : n.toList = [95, 95, 116, 121, 112, 101, 110, 97, 109, 101] := by simpa using e1
        rw [Lib.toList_data] at this
        exact ByteArray.ext (Array.toList_inj.1 this)
      subst hnn
      clear e1
      obtain ⟨⟨z0, z1, z2, z3, z4, z5⟩, v0, v1, v2, v3, v4, v5⟩ := six_cells X1.out.res
      go_wp2_with fail
      refine ret_f2 rfl rfl rfl (six_set X1.out.res) ?_
      subst hQ
      exact ⟨_, _, _, _, _, _, rfl, fld_none tnameB strB 1 (by decide) (by decide), six_low (b := w.heap.size + 1) X1.out.low (Nat.le_succ _)⟩
    case' false =>
      have HQ : Hid (Q = if (x.2 && (x.1.kind == 1 || x.1.kind == 2)) = true then fieldL x.1.fields n else (zeroF, false)) := Lib.hid (HQ.out.trans (by rw [e2, if_neg (by simp)]))
      go_upto_region 3 with fail
      clear X0 e1 e2
  all_goals
    obtain ⟨z0, z1, z2⟩ := three_cells X1.out.box
    go_wp2_with fail
    refine (F.out _ X1.out.low).mono ?_
    rintro e wc ⟨d0, d1, d2, d3, d4, d5, rfl, hT, hb3⟩
    have X3 := Lib.hid (X1.out.next hb3)
    obtain ⟨Af, kf, Ax, kx, Ap, kp, Am, km, e, _, _, ⟨hl, hR⟩, _⟩ := defn_cells hT
    simp only [List.cons.injEq, and_true] at e
    obtain ⟨rfl, rfl, rfl, rfl, rfl, rfl⟩ := e
    have HR := Lib.hid hR
    clear z0 z1 z2 hT hb3 hR F CC X1
    go_upto_region 4 with fail
    have X4 := Lib.hid (X3.out.next (dbelow_new wc (.cells #[.int .i64 x.1.kind, .string x.1.name, .slice Af x.1.faces.length kf, .slice Ax x.1.fields.length kx, .slice Ap x.1.parts.length kp, .slice Am x.1.params.length km] 32)))
    have F4 := heap_alloc_new wc (.cells #[.int .i64 x.1.kind, .string x.1.name, .slice Af x.1.faces.length kf, .slice Ax x.1.fields.length kx, .slice Ap x.1.parts.length kp, .slice Am x.1.params.length km] 32)
    have HR4 := Lib.hid (RowT.below ((dbelow_new wc (.cells #[.int .i64 x.1.kind, .string x.1.name, .slice Af x.1.faces.length kf, .slice Ax x.1.fields.length kx, .slice Ap x.1.parts.length kp, .slice Am x.1.params.length km] 32)).mono (Nat.le_trans HB.out X3.out.low.size)) HR.out)
    have hg5 : w.heap.size + 2 ≤ wc.heap.size := X3.out.size
    generalize wc.alloc (.cells #[.int .i64 x.1.kind, .string x.1.name, .slice Af x.1.faces.length kf, .slice Ax x.1.fields.length kx, .slice Ap x.1.parts.length kp, .slice Am x.1.params.length km] 32) = wd at X4 F4 HR4 ⊢
    generalize wc.heap.size = g5 at F4 hg5 ⊢
    have HF4 := Lib.hid F4
    obtain ⟨⟨y0, y1, y2, y3, y4, y5⟩, _⟩ := six_cells F4
    clear F4 X3 HR y1 y2 y4 y5
    obtain ⟨a1, k1⟩ : ∃ b, (x.1.kind == 1) = b := ⟨_, rfl⟩
    obtain ⟨a2, k2⟩ : ∃ b, (x.1.kind == 2) = b := ⟨_, rfl⟩
    have n1 : (x.1.kind != 1) = !a1 := by rw [← k1]; rfl
    have n2 : (x.1.kind != 2) = !a2 := by rw [← k2]; rfl
    have HX2 : Hid ((a1 || a2) = true → x.2 = true) := Lib.hid (fun h => by
      cases e : x.2
      · have := HZ0.out e
        rw [← k1, ← k2, this] at h
        simp at h
      · rfl)
    have HQ3 : Hid (Q = if (x.2 && (a1 || a2)) = true then fieldL x.1.fields n else (zeroF, false)) := Lib.hid (HQ.out.trans (by rw [k1, k2]))
    clear HQ k1 k2
    by_cases ha : (a1 || a2) = true
    case' neg =>
      have hQ : Q = (zeroF, false) := HQ3.out.trans (if_neg (by simp; intro _; simpa using ha))
      cases a1 <;> cases a2 <;> simp at ha
      obtain ⟨⟨z0, z1, z2, z3, z4, z5⟩, v0, v1, v2, v3, v4, v5⟩ := six_cells X4.out.res
      simp only [Bool.not_false] at n1 n2
      clear y3
      go_wp2_with fail
      refine ret_f2 rfl rfl rfl (six_set X4.out.res) ?_
      subst hQ
      exact ⟨_, _, _, _, _, _, rfl, fld_none ⟨#[]⟩ ⟨#[]⟩ 0 (by decide) (by decide), six_low (b := w.heap.size + 1) X4.out.low (Nat.le_succ _)⟩
    case' pos =>
      have HQ4 : Hid (Q = fieldL x.1.fields n) := Lib.hid (HQ3.out.trans (if_pos (by rw [HX2.out ha, ha]; rfl)))
      obtain ⟨l, el⟩ : ∃ l, x.1.fields = l := ⟨_, rfl⟩
      rw [el] at hl HR4 HQ4 y3
      have Y3 := Lib.hid y3
      clear HQ3 HX2 el HZ0
      cases a1 <;> cases a2 <;> simp at ha
    all_goals
      simp only [Bool.not_false, Bool.not_true] at n1 n2
      clear y3
      go_wp2_with fail
      clear y0 n1 n2
      go_loopg [10] l.length (fun gk i wx => ∃ q : Nat, q + gk = l.length ∧ i = .int .i64 q ∧ Aside (fieldL (l.drop q) n = fieldL l n) ∧ Aside (FR w (.slice A S.defs.length k) (.string S.query) (.string S.mutation) (.cells #[.string ⟨#[]⟩, .slice none 0 0, .string ⟨#[]⟩, .int .i64 0, .int .i64 0, .slice none 0 0] 44) wx ∧ Below wd.heap.size wd wx))
      case atStart => exact ⟨0, by omega, rfl, Blk.Aside.intro (by rw [List.drop_zero]), Blk.Aside.intro ⟨X4.out, Below.refl _ _⟩⟩
      case round =>
        obtain ⟨q, hq, rfl, HA, HX⟩ := hrel
        obtain ⟨hX, hb⟩ := HX.out
        have X5 := Lib.hid hX
        have HB5 := Lib.hid hb
        have hg5d : g5 < wd.heap.size := (Array.getElem?_eq_some_iff.1 HF4.out).1
        have y3 := (hb.cell (p := ⟨g5, 3, none⟩) hg5d).trans Y3.out
        clear HX hX hb
        cases gk with
        | zero =>
          obtain rfl : q = l.length := by omega
          have hQ : Q = (zeroF, false) := HQ4.out.trans (by rw [← HA.out, List.drop_length]; rfl)
          obtain ⟨⟨z0, z1, z2, z3, z4, z5⟩, v0, v1, v2, v3, v4, v5⟩ := six_cells X5.out.res
          clear HA
          go_wp2_with fail
          refine ret_f2 rfl rfl rfl (six_set X5.out.res) ?_
          subst hQ
          exact ⟨_, _, _, _, _, _, rfl, fld_none ⟨#[]⟩ ⟨#[]⟩ 0 (by decide) (by decide), six_low (b := w.heap.size + 1) X5.out.low (Nat.le_succ _)⟩
        | succ g =>
          have hqn : q < l.length := by omega
          have hqn' : (q : Int) < (l.length : Int) := by omega
          obtain ⟨d, hd⟩ : ∃ x, l[q]? = some x := ⟨_, List.getElem?_eq_getElem hqn⟩
          have hBx : B ≤ wd.heap.size := Nat.le_trans HB.out X4.out.low.size
          obtain ⟨b, p, e0, e1, e2, e3, e4, e5, rfl, hlt, ⟨g0, g1, g2, g3, g4, g5'⟩, hT⟩ := field_at (RowT.below (HB5.out.mono hBx) HR4.out) hd
          have HT := Lib.hid hT
          obtain ⟨Bp, cp, Bd, cd, e, _⟩ := fld_cells hT
          simp only [List.cons.injEq, and_true] at e
          obtain ⟨rfl, rfl, rfl, rfl, rfl, rfl⟩ := e
          have hN := fieldL_at (n := n) hd
          have hlt' : b < wr.heap.size := Nat.lt_of_lt_of_le hlt (Nat.le_trans hBx HB5.out.size)
          have hne : ¬ b = w.heap.size + 1 := by have := HB.out; omega
          have hne2 : ¬ w.heap.size + 1 = b := by have := HB.out; omega
          have hne3 : ¬ g5 = w.heap.size + 1 := by omega
          have hne4 : ¬ w.heap.size + 1 = g5 := by omega
          clear hT hd hlt
          cases e : (d.name.toList == n.toList) with
          | false =>
            have hG : Hid (fieldL (l.drop (q + 1)) n = fieldL l n) := Lib.hid (by rw [← HA.out, hN, if_neg (by rw [e]; decide)])
            clear HA hN
            go_wp2_with fail
            go_roundg g
            case measure => omega
            case rel => exact ⟨q + 1, by omega, by go_num, Blk.Aside.intro hG.out, Blk.Aside.intro ⟨X5.out, HB5.out⟩⟩
          | true =>
            have hQ : Q = (d, true) := HQ4.out.trans (by rw [← HA.out, hN, if_pos e])
            have HQ5 := Lib.hid hQ
            clear HA hN hQ
            obtain ⟨⟨z0, z1, z2, z3, z4, z5⟩, v0, v1, v2, v3, v4, v5⟩ := six_cells X5.out.res
            go_wp2_with fail
            refine ret_f2 rfl rfl rfl (six_set X5.out.res) ?_
            have hQ := HQ5.out
            subst hQ
            exact ⟨_, _, _, _, _, _, rfl, TS.low (B := B) (six_low (b := w.heap.size + 1) (Below.refl _ _) (Nat.le_succ_of_le HB.out)) HT.out, six_low (b := w.heap.size + 1) X5.out.low (Nat.le_succ _)⟩
end Go.Proofs.Ytiponpcglienpaa
