/- defs.Meets. -/
import Derived.Test.YtmamgaifpjgfkaaDfPoss
namespace Go.Proofs.Ytmamgaifpjgfkaa
open Go.RowKit

/-- Have two rows a name in common? -/
def anyN (xs ys : List ByteArray) : Bool := xs.any fun x => hasN ys x
theorem any_take {xs ys : List ByteArray} {k : Nat} {x : ByteArray} (h : anyN (xs.take k) ys = false) (hx : xs[k]? = some x) (hn : hasN ys x = false) : anyN (xs.take (k + 1)) ys = false := by
  unfold anyN at h ⊢
  rw [List.take_add_one, hx, List.any_append, h]
  simpa using hn
theorem any_mem {xs ys : List ByteArray} {k : Nat} {x : ByteArray} (hx : xs[k]? = some x) (hn : hasN ys x = true) : anyN xs ys = true := by
  unfold anyN
  rw [List.any_eq_true]
  exact ⟨x, List.mem_of_getElem? hx, hn⟩
def meetsB (S : SchT) (a b : ByteArray) : Bool := anyN (possL S a) (possL S b)
theorem poss_len (S : SchT) (n : ByteArray) (hz : SlimS S) : (possL S n).length ≤ 9223372036854775807 := by
  have h1 := hz.1
  have h2 := (find_slim hz.2 n).2.2.1
  have h3 := bearers_len S.defs n
  have h4 := once_len (bearersL S.defs n)
  have h5 := once_len (findD S.defs n).1.parts
  have h6 := objL_len S (onceL (findD S.defs n).1.parts)
  unfold possL
  split
  · split
    · simp
    · split
      · omega
      · split
        · omega
        · simp
  · simp
set_option maxRecDepth 100000 in
set_option maxHeartbeats 8000000 in
theorem meets_any (S : SchT) (a b : ByteArray) (c0 c1 c2 : Value) (w : World) (B : Nat) (hB : B ≤ w.heap.size) (ha : a.size ≤ 9223372036854775807) (hb : b.size ≤ 9223372036854775807) (hz : SlimS S) (hS : TS w (fun b => b < B) (encSch S) [c0, c1, c2]) :
    Calls Try.prog 24 #[.agg #[c0, c1, c2], .string a, .string b] w fun e w' => e = .returned (.bool (meetsB S a b)) ∧ Below w.heap.size w w' := by
  have P1 := Lib.hid (fun (wx : World) (h : Below w.heap.size w wx) => poss_any S b c0 c1 c2 wx B (Nat.le_trans hB h.size) hb hz (TS.low (h.mono hB) hS))
  have P2 := Lib.hid (fun (wx : World) (h : Below w.heap.size w wx) => poss_any S a c0 c1 c2 wx B (Nat.le_trans hB h.size) ha hz (TS.low (h.mono hB) hS))
  have hl1 := poss_len S b hz
  have hl2 := poss_len S a hz
  obtain ⟨A, k, e, _⟩ := sch_cells hS
  injection e with e0 e
  injection e with e1 e
  injection e with e2 e
  subst e0 e1 e2
  clear hB e ha hb hS hz
  unfold meetsB
  generalize possL S b = ys at P1 hl1 ⊢
  generalize possL S a = xs at P2 hl2 ⊢
  have B0 := Lib.hid (dbelow_new w (.cells #[.slice A S.defs.length k, .string S.query, .string S.mutation] 24))
  have X0 := heap_alloc_new w (.cells #[.slice A S.defs.length k, .string S.query, .string S.mutation] 24)
  go_enter Try.func24, Try.ntmps24
  go_wp2_with fail
  go_step3
  go_wp2_with fail
  refine (P1.out _ B0.out).mono ?_
  rintro e w1 ⟨A1, k1, rfl, hs1, hb1⟩
  have x1 := (hb1.block w.heap.size (by simp)).trans X0
  obtain ⟨z0, z1, z2⟩ := three_cells x1
  have B1 := Lib.hid (B0.out.trans (hb1.mono B0.out.size))
  have S1 := Lib.hid hs1
  clear hs1 hb1 X0 x1 P1
  go_wp2_with fail
  go_step3
  go_wp2_with fail
  refine (P2.out _ B1.out).mono ?_
  rintro e w2 ⟨A2, k2, rfl, hs2, hb2⟩
  have B2 := Lib.hid (B1.out.trans (hb2.mono B1.out.size))
  have S2 := Lib.hid hs2
  have S3 := Lib.hid (S1.out.on hb2)
  clear hs2 hb2 z0 z1 z2 P2 S1
  go_wp2_with fail
  go_loopg [7, 20] xs.length (fun g cm i wx => ∃ q : Nat, q + g = xs.length ∧ i = .int .i64 q ∧ cm = .bool false ∧ Below w2.heap.size w2 wx ∧ Aside (anyN (xs.take q) ys = false))
  case atStart => exact ⟨0, by omega, rfl, rfl, Below.refl _ _, Blk.Aside.intro (by rw [List.take_zero]; rfl)⟩
  case round =>
    obtain ⟨q, hq, rfl, rfl, hb, HA⟩ := hrel
    have HBB := Lib.hid hb
    clear hb
    cases gk with
    | zero =>
      obtain rfl : q = xs.length := by omega
      have hE : Hid (anyN xs ys = false) := Lib.hid (by have := HA.out; rwa [List.take_length] at this)
      clear HA
      go_wp2_with fail
      rw [Exit.noGoto_ret]
      go_ret
      exact ⟨Blk.ret_bool hE.out.symm, B2.out.trans (HBB.out.mono B2.out.size)⟩
    | succ g =>
      have hqn : q < xs.length := by omega
      have hqn' : (q : Int) < (xs.length : Int) := by omega
      obtain ⟨x, hx⟩ : ∃ x, xs[q]? = some x := ⟨_, List.getElem?_eq_getElem hqn⟩
      obtain ⟨b1, o1, rfl, hlt1, c1⟩ := S2.out.2 q x hx
      have c1 := (HBB.out.cell (p := ⟨b1, o1 + q, none⟩) hlt1).trans c1
      have HX := Lib.hid hx
      clear hx
      go_wp2_with fail
      clear c1
      go_loopg [7, 26] ys.length (fun g2 cm i wx => ∃ k : Nat, k + g2 = ys.length ∧ i = .int .i64 k ∧ cm = .bool false ∧ Below w2.heap.size w2 wx ∧ Aside (hasN (ys.take k) x = false))
      case atStart => exact ⟨0, by omega, rfl, rfl, HBB.out, Blk.Aside.intro (by rw [List.take_zero]; rfl)⟩
      case round =>
        obtain ⟨k, hk, rfl, rfl, hb, HA2⟩ := hrel
        have HBC := Lib.hid hb
        clear hb
        cases gk with
        | zero =>
          obtain rfl : k = ys.length := by omega
          have hE : Hid (anyN (xs.take (q + 1)) ys = false) := Lib.hid (any_take HA.out HX.out (by have := HA2.out; rwa [List.take_length] at this))
          clear HA2 HA
          go_wp2_with fail
          go_roundg g
          case measure => omega
          case rel => exact ⟨q + 1, by omega, by go_num, rfl, HBC.out, Blk.Aside.intro hE.out⟩
        | succ g2 =>
          have hkn : k < ys.length := by omega
          have hkn' : (k : Int) < (ys.length : Int) := by omega
          obtain ⟨y, hy⟩ : ∃ y, ys[k]? = some y := ⟨_, List.getElem?_eq_getElem hkn⟩
          obtain ⟨b2, o2, rfl, hlt2, c2⟩ := S3.out.2 k y hy
          have c2 := (HBC.out.cell (p := ⟨b2, o2 + k, none⟩) hlt2).trans c2
          have HY := Lib.hid hy
          clear hy
          by_cases hxy : x = y
          · subst hxy
            have e1' : (x.toList == x.toList) = true := by simp
            have hT : Hid (anyN xs ys = true) := Lib.hid (any_mem HX.out (hasN_iff.2 (List.mem_of_getElem? HY.out)))
            clear HA HA2
            go_wp2_with fail
            rw [Exit.noGoto_ret]
            go_ret
            exact ⟨Blk.ret_bool hT.out.symm, B2.out.trans (HBC.out.mono B2.out.size)⟩
          · have hne : x.toList ≠ y.toList := fun h => hxy (by
              rw [Lib.toList_data, Lib.toList_data] at h
              exact ByteArray.ext (Array.toList_inj.1 h))
            have e1' : (x.toList == y.toList) = false := by simpa using hne
            have hT := Lib.hid (hasN_take HA2.out HY.out (fun h => hxy h.symm))
            clear hne HA2 hxy
            go_wp2_with fail
            go_roundg g2
            case measure => omega
            case rel => exact ⟨k + 1, by omega, by go_num, rfl, HBC.out, Blk.Aside.intro hT.out⟩
end Go.Proofs.Ytmamgaifpjgfkaa
