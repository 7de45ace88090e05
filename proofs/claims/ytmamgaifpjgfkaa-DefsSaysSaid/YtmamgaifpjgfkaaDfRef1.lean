/- The document's own Has, Find, is, Object, Leaf, Composite, Entry. -/
import Derived.Test.YtmamgaifpjgfkaaDfFld
namespace Go.Proofs.Ytmamgaifpjgfkaa
open Go.RowKit

set_option maxRecDepth 100000 in
theorem rhas_any (A : Option Addr) (n c : Nat) (xs : List ByteArray) (s : ByteArray) (w : World) (hn : n ≤ 9223372036854775807) (ha : Blk.StrsAt w w.heap.size A n xs) :
    Calls Try.prog 39 #[.slice A n c, .string s] w fun e w' => e = .returned (.bool (hasN xs s)) ∧ Below w.heap.size w w' := by
  have HA := Lib.hid ha
  clear ha
  go_enter Try.func39, Try.ntmps39
  go_wp2_with fail
  go_loopg [5] n (fun g i wx => ∃ k : Nat, k + g = n ∧ i = .int .i64 k ∧ (∃ m, w.drewN m = wx) ∧ Aside (hasN (xs.take k) s = false))
  case atStart => exact ⟨0, by omega, rfl, ⟨0, rfl⟩, Blk.Aside.intro (by rw [List.take_zero]; rfl)⟩
  case round =>
    obtain ⟨k, hk, rfl, ⟨m, rfl⟩, H⟩ := hrel
    cases gk with
    | zero =>
      obtain rfl : k = n := by omega
      have hd : Hid (hasN xs s = false) := Lib.hid (by
        have h := H.out
        rwa [List.take_of_length_le (by rw [HA.out.1]; omega)] at h)
      clear H
      go_wp2_with fail
      go_ret
      exact ⟨Blk.ret_bool hd.out.symm, Blk.below_draws (Below.refl _ _) m⟩
    | succ g =>
      have hlt : k < n := by omega
      have hlt' : (k : Int) < (n : Int) := by omega
      obtain ⟨x, hx⟩ : ∃ x, xs[k]? = some x := ⟨_, List.getElem?_eq_getElem (by rw [HA.out.1]; omega)⟩
      obtain ⟨b1, o1, rfl, hl1, c1⟩ := HA.out.2 k x hx
      have HX := Lib.hid hx
      clear hx
      by_cases hxy : x = s
      · subst hxy
        have e1' : (x.toList == x.toList) = true := by simp
        have hT : Hid (hasN xs x = true) := Lib.hid (hasN_iff.2 (List.mem_of_getElem? HX.out))
        clear H
        go_wp2_with fail
        go_ret
        exact ⟨Blk.ret_bool hT.out.symm, Blk.below_draws (Below.refl _ _) _⟩
      · have hne : x.toList ≠ s.toList := fun h => hxy (by
          rw [Lib.toList_data, Lib.toList_data] at h
          exact ByteArray.ext (Array.toList_inj.1 h))
        have e1' : (x.toList == s.toList) = false := by simpa using hne
        clear hne
        have hT := Lib.hid (hasN_take H.out HX.out hxy)
        clear H hxy
        go_wp2_with fail
        go_roundg g
        case measure => omega
        case rel => exact ⟨k + 1, by omega, by go_num, ⟨_, rfl⟩, Blk.Aside.intro hT.out⟩
set_option maxRecDepth 100000 in
theorem rscalar_any (n : ByteArray) (w : World) : Calls Try.prog 29 #[.string n] w fun e w' => e = .returned (.bool (scalarB n)) ∧ Below w.heap.size w w' := by
  unfold scalarB
  obtain ⟨x0, h0⟩ : ∃ x, (n.toList == [73, 110, 116]) = x := ⟨_, rfl⟩
  obtain ⟨x1, h1⟩ : ∃ x, (n.toList == [83, 116, 114, 105, 110, 103]) = x := ⟨_, rfl⟩
  obtain ⟨x2, h2⟩ : ∃ x, (n.toList == [66, 111, 111, 108, 101, 97, 110]) = x := ⟨_, rfl⟩
  obtain ⟨x3, h3⟩ : ∃ x, (n.toList == [73, 68]) = x := ⟨_, rfl⟩
  have HE : Hid ((n.toList == [73, 110, 116] || n.toList == [83, 116, 114, 105, 110, 103] || n.toList == [66, 111, 111, 108, 101, 97, 110] || n.toList == [73, 68]) = (x0 || x1 || x2 || x3)) := Lib.hid (by rw [h0, h1, h2, h3])
  rw [HE.out]
  clear HE
  cases x0 <;> cases x1 <;> cases x2 <;> cases x3
  all_goals
    go_enter Try.func29, Try.ntmps29
    go_wp2_with fail
    go_ret
    exact ⟨rfl, Below.refl _ _⟩
set_option maxRecDepth 100000 in
set_option maxHeartbeats 4000000 in
theorem rfind_any (S : SchT) (n : ByteArray) (c0 c1 c2 : Value) (w : World) (B : Nat) (hB : B ≤ w.heap.size) (hn : n.size ≤ 9223372036854775807) (hS : TS w (fun b => b < B) (encSch S) [c0, c1, c2]) :
    Calls Try.prog 8 #[.agg #[c0, c1, c2], .string n] w (FoundD (findD S.defs n) B w) := by
  obtain ⟨A, k, e, hl, hR⟩ := sch_cells hS
  injection e with e0 e
  injection e with e1 e
  injection e with e2 e
  subst e0 e1 e2
  have HB0 := Lib.hid hB
  have HR := Lib.hid hR
  have HN := Lib.hid hn
  clear hB hS hR e
  have X0 := Lib.hid (FR.start w (.slice A S.defs.length k) (.string S.query) (.string S.mutation) (.cells #[.int .i64 0, .string ⟨#[]⟩, .slice none 0 0, .slice none 0 0, .slice none 0 0, .slice none 0 0] 32))
  have SC := Lib.hid (fun (wx : World) => rscalar_any n wx)
  have HQ : Hid (findD S.defs n = if scalarB n = true then (⟨0, n, [], [], [], []⟩, true) else findL S.defs n) := Lib.hid rfl
  generalize findD S.defs n = Q at HQ ⊢
  obtain ⟨q, mu, l, el⟩ : ∃ q mu l, S = ⟨l, q, mu⟩ := ⟨S.query, S.mutation, S.defs, rfl⟩
  subst el
  go_enter Try.func8, Try.ntmps8
  go_wp2_with fail
  refine (SC.out _).mono ?_
  rintro e w1 ⟨rfl, hb1⟩
  have X1 := Lib.hid (X0.out.next hb1)
  clear hb1 X0 SC
  cases hs : scalarB n with
  | true =>
    have hQ : Q = (⟨0, n, [], [], [], []⟩, true) := HQ.out.trans (by rw [hs, if_pos rfl])
    obtain ⟨⟨z0, z1, z2, z3, z4, z5⟩, v0, v1, v2, v3, v4, v5⟩ := six_cells X1.out.res
    go_wp2_with fail
    refine ret_d2 rfl rfl rfl (six_set X1.out.res) ?_
    subst hQ
    exact ⟨_, _, _, _, _, _, rfl, defn_none _ _ HN.out, six_low (b := w.heap.size + 1) X1.out.low (Nat.le_succ _)⟩
  | false =>
    have HQ2 : Hid (Q = findL l n) := Lib.hid (HQ.out.trans (by rw [hs, if_neg (by decide)]))
    clear HQ hs
    go_wp2_with fail
    go_loopg [6] l.length (fun g i wx => ∃ q' : Nat, q' + g = l.length ∧ i = .int .i64 q' ∧ Aside (findL (l.drop q') n = findL l n) ∧ Aside (FR w (.slice A l.length k) (.string q) (.string mu) (.cells #[.int .i64 0, .string ⟨#[]⟩, .slice none 0 0, .slice none 0 0, .slice none 0 0, .slice none 0 0] 32) wx))
    case atStart => exact ⟨0, by omega, rfl, Blk.Aside.intro (by rw [List.drop_zero]), Blk.Aside.intro X1.out⟩
    case round =>
      obtain ⟨q', hq, rfl, HA, HX⟩ := hrel
      have X2 := Lib.hid HX.out
      obtain ⟨x0, x1, x2⟩ := three_cells X2.out.box
      clear HX
      cases gk with
      | zero =>
        obtain rfl : q' = l.length := by omega
        have hQ : Q = (zeroD, false) := HQ2.out.trans (by rw [← HA.out, List.drop_length]; rfl)
        obtain ⟨⟨z0, z1, z2, z3, z4, z5⟩, v0, v1, v2, v3, v4, v5⟩ := six_cells X2.out.res
        clear HA
        go_wp2_with fail
        refine ret_d2 rfl rfl rfl (six_set X2.out.res) ?_
        subst hQ
        exact ⟨_, _, _, _, _, _, rfl, defn_none _ _ (by decide), six_low (b := w.heap.size + 1) X2.out.low (Nat.le_succ _)⟩
      | succ g =>
        have hqn : q' < l.length := by omega
        have hqn' : (q' : Int) < (l.length : Int) := by omega
        obtain ⟨d, hd⟩ : ∃ x, l[q']? = some x := ⟨_, List.getElem?_eq_getElem hqn⟩
        obtain ⟨b, p, d0, d1, d2, d3, d4, d5, rfl, hlt, ⟨g0, g1, g2, g3, g4, g5⟩, hT⟩ := defn_at (RowT.below (X2.out.low.mono HB0.out) HR.out) hd
        have HT := Lib.hid hT
        obtain ⟨Af, kf, Ax, kx, Ap, kp, Am, km, e, _⟩ := defn_cells hT
        simp only [List.cons.injEq, and_true] at e
        obtain ⟨rfl, rfl, rfl, rfl, rfl, rfl⟩ := e
        have hN := findL_at (n := n) hd
        have hlt' : b < wr.heap.size := Nat.lt_of_lt_of_le hlt (Nat.le_trans HB0.out X2.out.low.size)
        have hne : ¬ b = w.heap.size + 1 := by have := HB0.out; omega
        have hne2 : ¬ w.heap.size + 1 = b := by have := HB0.out; omega
        clear hT hd hlt
        cases e : (d.name.toList == n.toList) with
        | true =>
          have hQ : Q = (d, true) := HQ2.out.trans (by rw [← HA.out, hN, if_pos e])
          have HQ3 := Lib.hid hQ
          obtain ⟨⟨z0, z1, z2, z3, z4, z5⟩, v0, v1, v2, v3, v4, v5⟩ := six_cells X2.out.res
          clear HA hN hQ
          go_wp2_with fail
          refine ret_d2 rfl rfl rfl (six_set X2.out.res) ?_
          have hQ := HQ3.out
          subst hQ
          exact ⟨_, _, _, _, _, _, rfl, TS.low (B := B) (six_low (b := w.heap.size + 1) (Below.refl _ _) (Nat.le_succ_of_le HB0.out)) HT.out, six_low (b := w.heap.size + 1) X2.out.low (Nat.le_succ _)⟩
        | false =>
          have hG : Hid (findL (l.drop (q' + 1)) n = findL l n) := Lib.hid (by rw [← HA.out, hN, if_neg (by rw [e]; decide)])
          clear HA hN
          go_wp2_with fail
          go_roundg g
          case measure => omega
          case rel => exact ⟨q' + 1, by omega, by go_num, Blk.Aside.intro hG.out, Blk.Aside.intro X2.out⟩
end Go.Proofs.Ytmamgaifpjgfkaa
