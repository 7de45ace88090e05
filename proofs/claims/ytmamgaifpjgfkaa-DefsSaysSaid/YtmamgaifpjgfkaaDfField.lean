/- defs.Field. -/
import Derived.Test.YtmamgaifpjgfkaaDfFld
namespace Go.Proofs.Ytmamgaifpjgfkaa
open Go.RowKit

theorem field_at {w : World} {P : Nat → Prop} {l : List FieldT} {A : Option Addr} {q : Nat} {d : FieldT} (h : RowT w P (rowOf encField l) A) (hx : l[q]? = some d) :
    ∃ b p c0 c1 c2 c3 c4 c5, A = some ⟨b, p, none⟩ ∧ P b ∧ (w.cell? ⟨b, p + q * 6, none⟩ = some c0 ∧ w.cell? ⟨b, p + q * 6 + 1, none⟩ = some c1 ∧ w.cell? ⟨b, p + q * 6 + 2, none⟩ = some c2 ∧ w.cell? ⟨b, p + q * 6 + 3, none⟩ = some c3 ∧ w.cell? ⟨b, p + q * 6 + 4, none⟩ = some c4 ∧ w.cell? ⟨b, p + q * 6 + 5, none⟩ = some c5) ∧ TS w P (encField d) [c0, c1, c2, c3, c4, c5] := by
  obtain ⟨b, p, cs, e, hb, hc, h1⟩ := rowOf_at 6 (fun _ => rfl) h hx
  obtain ⟨Ap, kp, Ad, kd, rfl, _⟩ := fld_cells h1
  exact ⟨b, p, _, _, _, _, _, _, e, hb, ⟨hc 0 _ rfl, hc 1 _ rfl, hc 2 _ rfl, hc 3 _ rfl, hc 4 _ rfl, hc 5 _ rfl⟩, h1⟩
set_option maxRecDepth 100000 in
set_option maxHeartbeats 8000000 in
theorem field_any (S : SchT) (t n : ByteArray) (c0 c1 c2 : Value) (w : World) (B : Nat) (hB : B ≤ w.heap.size) (ht : t.size ≤ 9223372036854775807) (hz : SlimS S) (hS : TS w (fun b => b < B) (encSch S) [c0, c1, c2]) :
    Calls Try.prog 23 #[.agg #[c0, c1, c2], .string t, .string n] w (FoundF (fieldD S.defs t n) w) := by
  have F := Lib.hid (fun (wx : World) (hb : Below w.heap.size w wx) => find_any S t c0 c1 c2 wx B (Nat.le_trans hB hb.size) ht (TS.low (hb.mono hB) hS))
  have CC := Lib.hid (fun (wx : World) (hb : Below w.heap.size w wx) => composite_any S t c0 c1 c2 wx B (Nat.le_trans hB hb.size) ht (TS.low (hb.mono hB) hS))
  have IC := Lib.hid (fun (wx : World) (g : Nat) (hb : Below w.heap.size w wx) (hk : IntsAt wx wx.heap.size (some ⟨g, 0, none⟩) [1, 2]) => is_any S t [1, 2] (some ⟨g, 0, none⟩) 2 2 c0 c1 c2 wx B (Nat.le_trans hB hb.size) ht (by decide) rfl hk (TS.low (hb.mono hB) hS))
  have M := Lib.hid (fun (wx : World) => must_any strB 0 0 wx (by decide))
  rw [must_str] at M
  have FS := Lib.hid (find_slim hz.2 t)
  have HB := Lib.hid hB
  obtain ⟨A, k, e, _⟩ := sch_cells hS
  injection e with e0 e
  injection e with e1 e
  injection e with e2 e
  subst e0 e1 e2
  clear hB e ht hS hz
  have X0 := Lib.hid (FR.start w (.slice A S.defs.length k) (.string S.query) (.string S.mutation) (.cells #[.string ⟨#[]⟩, .slice none 0 0, .string ⟨#[]⟩, .int .i64 0, .int .i64 0, .slice none 0 0] 46))
  have HQ : Hid (fieldD S.defs t n = if (n.toList == [95, 95, 116, 121, 112, 101, 110, 97, 109, 101]) = true ∧ compD S.defs t = true then (⟨tnameB, [], strB, 0, 1, []⟩, true)
      else if isD S.defs t [1, 2] = true then fieldL (findD S.defs t).1.fields n else (zeroF, false)) := Lib.hid rfl
  generalize fieldD S.defs t n = Q at HQ ⊢
  cases e1 : (n.toList == [95, 95, 116, 121, 112, 101, 110, 97, 109, 101])
  case' false =>
    go_enter Try.func23, Try.ntmps23
    go_upto_region 3 with fail
    have HQ : Hid (Q = if isD S.defs t [1, 2] = true then fieldL (findD S.defs t).1.fields n else (zeroF, false)) := Lib.hid (HQ.out.trans (by rw [e1, if_neg (by simp)]))
    have X1 := Lib.hid X0.out
    generalize ((w.alloc (.cells #[.slice A S.defs.length k, .string S.query, .string S.mutation] 24)).alloc (.cells #[.string ⟨#[]⟩, .slice none 0 0, .string ⟨#[]⟩, .int .i64 0, .int .i64 0, .slice none 0 0] 46)) = wa at X1 ⊢
    clear X0 e1
  case' true =>
    go_enter Try.func23, Try.ntmps23
    obtain ⟨z0, z1, z2⟩ := three_cells X0.out.box
    go_wp2_with fail
    refine (CC.out _ X0.out.low).mono ?_
    clear z0 z1 z2
    rintro e wa ⟨rfl, hb1⟩
    have X1 := Lib.hid (X0.out.next hb1)
    clear hb1
    cases e2 : compD S.defs t
    case' true =>
      have hQ : Q = (⟨tnameB, [], strB, 0, 1, []⟩, true) := HQ.out.trans (by rw [e1, e2, if_pos ⟨rfl, rfl⟩])
      clear e1
      go_wp2_with fail
      refine (M.out _).mono ?_
      rintro e wb ⟨rfl, hb2⟩
      have X2 := Lib.hid (X1.out.next hb2)
      obtain ⟨⟨z0, z1, z2, z3, z4, z5⟩, v0, v1, v2, v3, v4, v5⟩ := six_cells X2.out.res
      clear hb2
      go_wp2_with fail
      refine ret_f2 rfl rfl rfl (six_set X2.out.res) ?_
      subst hQ
      exact ⟨_, _, _, _, _, _, rfl, fld_none tnameB strB 1 (by decide) (by decide), six_low (b := w.heap.size + 1) X2.out.low (Nat.le_succ _)⟩
    case' false =>
      have HQ : Hid (Q = if isD S.defs t [1, 2] = true then fieldL (findD S.defs t).1.fields n else (zeroF, false)) := Lib.hid (HQ.out.trans (by rw [e2, if_neg (by simp)]))
      go_upto_region 3 with fail
      clear X0 e1 e2
  all_goals
    obtain ⟨z0, z1, z2⟩ := three_cells X1.out.box
    have I1 := Lib.hid (fun (t : TypeId) => ints_new wa (o := .cells #[.int .i64 1, .int .i64 2] t) (l := [1, 2]) (B := wa.heap.size + 1) (by simp) rfl)
    go_wp2_with fail
    refine (IC.out _ wa.heap.size ((X1.out.next (dbelow_new wa _)).low) (by have := I1.out 3; simpa using this)).mono ?_
    rintro e wb ⟨rfl, hb2⟩
    have X2 := Lib.hid ((X1.out.next (dbelow_new wa _)).next hb2)
    clear z0 z1 z2 hb2 I1 X1
    cases e3 : isD S.defs t [1, 2] with
    | false =>
      have hQ : Q = (zeroF, false) := HQ.out.trans (by rw [e3, if_neg (by decide)])
      obtain ⟨⟨z0, z1, z2, z3, z4, z5⟩, v0, v1, v2, v3, v4, v5⟩ := six_cells X2.out.res
      go_wp2_with fail
      refine ret_f2 rfl rfl rfl (six_set X2.out.res) ?_
      subst hQ
      exact ⟨_, _, _, _, _, _, rfl, fld_none ⟨#[]⟩ ⟨#[]⟩ 0 (by decide) (by decide), six_low (b := w.heap.size + 1) X2.out.low (Nat.le_succ _)⟩
    | true =>
      have HQ2 : Hid (Q = fieldL (findD S.defs t).1.fields n) := Lib.hid (HQ.out.trans (by rw [e3, if_pos rfl]))
      clear HQ e3
      obtain ⟨z0, z1, z2⟩ := three_cells X2.out.box
      generalize findD S.defs t = x at F FS HQ2
      go_wp2_with fail
      refine (F.out _ X2.out.low).mono ?_
      rintro e wc ⟨d0, d1, d2, d3, d4, d5, rfl, hT, hb3⟩
      have X3 := Lib.hid (X2.out.next hb3)
      obtain ⟨Af, kf, Ax, kx, Ap, kp, Am, km, e, _, _, ⟨hl, hR⟩, _⟩ := defn_cells hT
      simp only [List.cons.injEq, and_true] at e
      obtain ⟨rfl, rfl, rfl, rfl, rfl, rfl⟩ := e
      have HR := Lib.hid hR
      have FL := Lib.hid FS.out.2.2.2.2
      obtain ⟨l, el⟩ : ∃ l, x.1.fields = l := ⟨_, rfl⟩
      rw [el] at hl HR HQ2 FL ⊢
      clear z0 z1 z2 hT hb3 hR F FS IC CC M X2 el
      go_wp2_with fail
      go_loopg [37] l.length (fun gk i wx => ∃ q : Nat, q + gk = l.length ∧ i = .int .i64 q ∧ Aside (fieldL (l.drop q) n = fieldL l n) ∧ Aside (FR w (.slice A S.defs.length k) (.string S.query) (.string S.mutation) (.cells #[.string ⟨#[]⟩, .slice none 0 0, .string ⟨#[]⟩, .int .i64 0, .int .i64 0, .slice none 0 0] 46) wx ∧ Below wc.heap.size wc wx))
      case atStart => exact ⟨0, by omega, rfl, Blk.Aside.intro (by rw [List.drop_zero]), Blk.Aside.intro ⟨X3.out.next (dbelow_new wc _), dbelow_new wc _⟩⟩
      case round =>
        obtain ⟨q, hq, rfl, HA, HX⟩ := hrel
        obtain ⟨hX, hb⟩ := HX.out
        have X4 := Lib.hid hX
        have HB4 := Lib.hid hb
        clear HX hX hb
        cases gk with
        | zero =>
          obtain rfl : q = l.length := by omega
          have hQ : Q = (zeroF, false) := HQ2.out.trans (by rw [← HA.out, List.drop_length]; rfl)
          obtain ⟨⟨z0, z1, z2, z3, z4, z5⟩, v0, v1, v2, v3, v4, v5⟩ := six_cells X4.out.res
          clear HA
          go_wp2_with fail
          refine ret_f2 rfl rfl rfl (six_set X4.out.res) ?_
          subst hQ
          exact ⟨_, _, _, _, _, _, rfl, fld_none ⟨#[]⟩ ⟨#[]⟩ 0 (by decide) (by decide), six_low (b := w.heap.size + 1) X4.out.low (Nat.le_succ _)⟩
        | succ g =>
          have hqn : q < l.length := by omega
          have hqn' : (q : Int) < (l.length : Int) := by omega
          obtain ⟨d, hd⟩ : ∃ x, l[q]? = some x := ⟨_, List.getElem?_eq_getElem hqn⟩
          have hBx : B ≤ wc.heap.size := Nat.le_trans HB.out X3.out.low.size
          obtain ⟨b, p, e0, e1, e2, e3, e4, e5, rfl, hlt, ⟨g0, g1, g2, g3, g4, g5⟩, hT⟩ := field_at (RowT.below (HB4.out.mono hBx) HR.out) hd
          have HT := Lib.hid hT
          have HSL := Lib.hid (FL.out d (List.mem_of_getElem? hd))
          obtain ⟨Bp, cp, Bd, cd, e, _⟩ := fld_cells hT
          simp only [List.cons.injEq, and_true] at e
          obtain ⟨rfl, rfl, rfl, rfl, rfl, rfl⟩ := e
          have hN := fieldL_at (n := n) hd
          have hlt' : b < wr.heap.size := Nat.lt_of_lt_of_le hlt (Nat.le_trans hBx HB4.out.size)
          clear hT hd hlt
          cases e : (d.name.toList == n.toList) with
          | false =>
            have hG : Hid (fieldL (l.drop (q + 1)) n = fieldL l n) := Lib.hid (by rw [← HA.out, hN, if_neg (by rw [e]; decide)])
            clear HA hN
            go_wp2_with fail
            go_roundg g
            case measure => omega
            case rel => exact ⟨q + 1, by omega, by go_num, Blk.Aside.intro hG.out, Blk.Aside.intro ⟨X4.out.next (dbelow_new wr _), HB4.out.trans ((dbelow_new wr _).mono HB4.out.size)⟩⟩
          | true =>
            have hQ : Q = (d, true) := HQ2.out.trans (by rw [← HA.out, hN, if_pos e])
            have HQ5 := Lib.hid hQ
            have hC := Lib.hid (fun o => ownfld_any d (.string d.name) (.slice Bp d.params.length cp) (.string d.tn) (.int .i64 d.tl) (.int .i64 d.tm) (.slice Bd d.dirs.length cd) (wr.alloc o) (fun b => b < B) (fun b hb => Nat.lt_of_lt_of_le hb (Nat.le_trans hBx (Nat.le_trans HB4.out.size (dbelow_new wr o).size))) HSL.out (TS.low ((dbelow_new wr o).mono (Nat.le_trans hBx HB4.out.size)) HT.out))
            clear HA hN hQ
            go_wp2_with fail
            refine (hC.out _).mono ?_
            rintro e wd ⟨A1, k1, A2, k2, rfl, hT2, hb2⟩
            have X5 := Lib.hid ((X4.out.next (dbelow_new wr _)).next hb2)
            have T5 := Lib.hid hT2
            have hs4 := X4.out.size
            obtain ⟨⟨z0, z1, z2, z3, z4, z5⟩, v0, v1, v2, v3, v4, v5⟩ := six_cells X5.out.res
            clear hT2 hb2 hC g0 g1 g2 g3 g4 g5
            go_wp2_with fail
            refine ret_f2 rfl rfl rfl (six_set X5.out.res) ?_
            have hQ := HQ5.out
            subst hQ
            exact ⟨_, _, _, _, _, _, rfl, TS.keep (fun b hb => ⟨by simpa [World.setCell] using hb.1, six_heap (hb.ne (g := w.heap.size + 1) (fun b h => by have := HB.out; omega) (by simp; omega))⟩) _ _ T5.out, six_low (b := w.heap.size + 1) X5.out.low (Nat.le_succ _)⟩
end Go.Proofs.Ytmamgaifpjgfkaa
