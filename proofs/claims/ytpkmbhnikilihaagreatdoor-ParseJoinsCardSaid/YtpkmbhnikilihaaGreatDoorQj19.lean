/- The landed reader of types: lists, and all. (gen_type.py wrote it.) -/
import Derived.Defers
import Derived.Recover
import Derived.Laws.EntriesVeiled
import Derived.Test.YtpkmbhnikilihaaGreatDoorQj9
import Derived.Lib.ConvBytes
import Derived.Laws.Strings3
import Derived.Laws.Closers25
import Derived.Laws.Closers25b
import Derived.BigCall
import Derived.BigGuard
import Derived.Lib.Walk
namespace Go.Proofs.YtpkmbhnikilihaaGreatDoor
open Go.RowKit

set_option maxRecDepth 100000 in
theorem typ_deep (ts : List Tok) (hb : atB 1 oB ts = true) : TypC 0 ts := by
  intro r d w h
  have R0 := Lib.hid ((h.below (below_new' w (.cells #[.string ⟨#[]⟩, .int .i64 0, .int .i64 0] 39))).below (below_new' _ (.cells #[.string ⟨#[]⟩, .int .i64 0, .int .i64 0] 39)))
  have K0 := Lib.hid (TwoT.start w r (.string ⟨#[]⟩) (.int .i64 0) (.int .i64 0) (.string ⟨#[]⟩) (.int .i64 0) (.int .i64 0) h.lt)
  have HA := Lib.hid (at_any r ts d 1 oB _ R0.out)
  rw [hb] at HA
  rw [typeR_deep hb]
  clear h hb
  show Calls _ _ #[_, .int .i64 4] _ fun e w' => e = PanicE 4 ∧ Moved r w w'
  go_enter Tryz.func128, Tryz.ntmps128
  go_wp2_with fail
  refine HA.out.mono ?_
  rintro e w1 ⟨rfl, rfl⟩
  go_wp2_with fail
  exact ⟨rfl, rfl, K0.out.2.2.1⟩
set_option maxRecDepth 100000 in
set_option maxHeartbeats 4000000 in
theorem typ_list (left : Nat) (hleft : left + 1 ≤ 4) (ih : ∀ ts, NamesT ts → TypC left ts) (ts : List Tok) (hN : NamesT ts) (hb : atB 1 oB ts = true) : TypC (left + 1) ts := by
  intro r d w h
  have K0 := Lib.hid (TwoT.start w r (.string ⟨#[]⟩) (.int .i64 0) (.int .i64 0) (.string ⟨#[]⟩) (.int .i64 0) (.int .i64 0) h.lt)
  have R0 := Lib.hid ((h.below (below_new' w (.cells #[.string ⟨#[]⟩, .int .i64 0, .int .i64 0] 39))).below (below_new' _ (.cells #[.string ⟨#[]⟩, .int .i64 0, .int .i64 0] 39)))
  have HA := Lib.hid (at_any r ts d 1 oB _ R0.out)
  have HK := Lib.hid (skip_any r ts d 1 oB _ R0.out)
  have hst : skipT 1 oB ts = ts.tail := by unfold skipT; rw [hb]; rfl
  rw [hb] at HA HK
  rw [hst] at HK
  obtain ⟨L, hL⟩ : ∃ L : Int, ((4 - (left + 1) : Nat) : Int) = L := ⟨_, rfl⟩
  have hL4 : (L == 4) = false := by simp; omega
  have hL1 : L + 1 = ((4 - left : Nat) : Int) := by omega
  have hLb : 0 ≤ L ∧ L ≤ 4 := by omega
  rw [hL]
  have HI := fun wx (hx : Rd wx r ts.tail d) => Lib.hid (ih ts.tail hN.tail r d wx hx)
  rw [← hL1] at HI
  have hright := type_right left ts.tail hN.tail
  clear hst h hN hL hL1 ih
  cases hi : typeR left ts.tail with
  | error x =>
    rw [hi] at HI
    have hg : typeR (left + 1) ts = .error x := by rw [typeR_list hb, hi]
    rw [hg]
    clear hg hb
    show Calls _ _ _ _ fun e w' => e = PanicE x ∧ Moved r w w'
    clear hi hright
    go_enter Tryz.func128, Tryz.ntmps128
    go_wp2_with fail
    refine HA.out.mono ?_
    rintro e w1 ⟨rfl, rfl⟩
    go_wp2_with fail
    refine HK.out.mono ?_
    rintro e w2 ⟨rfl, r2, m2⟩
    have K2 := Lib.hid (K0.out.next m2)
    have R2 := Lib.hid r2
    clear r2 m2
    go_wp2_with fail
    refine (HI _ R2.out).out.mono ?_
    rintro e w3 ⟨rfl, m3⟩
    exact ⟨rfl, rfl, K2.out.2.2.1.trans m3⟩
  | ok p =>
    obtain ⟨⟨n, l, m⟩, ts1⟩ := p
    rw [hi] at HI
    have RNi := hright n l m ts1 hi
    have HLI := fun wx => Lib.hid (by have h := list_any n (l : Int) (m : Int) wx RNi.2.1; rw [list_of RNi (by omega), yesT] at h; exact h)
    have RN := Lib.hid (show RightN n (l + 1) (2 * m) (left + 1) ts1.tail from ⟨RNi.1, RNi.2.1, by have := RNi.2.2.1; omega, by have := RNi.2.2.2.1; rw [Nat.pow_succ]; omega, RNi.2.2.2.2.tail⟩)
    clear hright RNi
    cases hc : atB 1 cB ts1 with
    | false =>
      have HN := fun wx (hx : Rd wx r ts1 d) => Lib.hid (by have := need_any r ts1 d 1 cB wx hx; rw [hc] at this; simp only [Bool.false_eq_true, if_false] at this; exact this)
      have hg : typeR (left + 1) ts = .error 2 := by rw [typeR_list hb, hi]; show (if atB 1 cB ts1 = true then _ else _) = _; rw [hc]; rfl
      rw [hg]
      clear hc hg hb hi
      show Calls _ _ _ _ fun e w' => e = PanicE 2 ∧ Moved r w w'
      go_enter Tryz.func128, Tryz.ntmps128
      go_wp2_with fail
      refine HA.out.mono ?_
      rintro e w1 ⟨rfl, rfl⟩
      go_wp2_with fail
      refine HK.out.mono ?_
      rintro e w2 ⟨rfl, r2, m2⟩
      have K2 := Lib.hid (K0.out.next m2)
      have R2 := Lib.hid r2
      clear r2 m2
      go_wp2_with fail
      refine (HI _ R2.out).out.mono ?_
      rintro e w3 ⟨rfl, r3, m3⟩
      have K3 := Lib.hid (K2.out.next m3)
      have R3 := Lib.hid r3
      clear r3 m3 HI
      go_wp2_with fail
      refine (HLI _).out.mono ?_
      rintro e w4 ⟨rfl, hb4⟩
      have K4 := Lib.hid (K3.out.next (Moved.of_below hb4))
      have R4 := Lib.hid (R3.out.below hb4)
      clear hb4 HLI K0 K2 K3 R0 R2 R3
      obtain ⟨k0, k1, k2, z0, z1, z2⟩ := ty_cells K4.out.2.1
      go_wp2_with fail
      clear k0 k1 k2 z0 z1 z2
      have K5 := Lib.hid (K4.out.set2 (.string n) (.int .i64 ((l + 1 : Nat) : Int)) (.int .i64 ((2 * m : Nat) : Int)))
      have R5 := Lib.hid (((R4.out.set (b := w.heap.size + 1) (i := 0) (v := .string n) (Nat.lt_succ_of_lt K4.out.2.2.2)).set (b := w.heap.size + 1) (i := 1) (v := .int .i64 ((l + 1 : Nat) : Int)) (Nat.lt_succ_of_lt K4.out.2.2.2)).set (b := w.heap.size + 1) (i := 2) (v := .int .i64 ((2 * m : Nat) : Int)) (Nat.lt_succ_of_lt K4.out.2.2.2))
      refine (HN _ R5.out).out.mono ?_
      rintro e w6 ⟨rfl, m6⟩
      exact ⟨rfl, rfl, K5.out.2.2.1.trans m6⟩
    | true =>
      have HN := fun wx (hx : Rd wx r ts1 d) => Lib.hid (by have := need_any r ts1 d 1 cB wx hx; rw [hc] at this; simp only [if_true] at this; exact this)
      have hg : typeR (left + 1) ts = .ok (bangR n (l + 1) (2 * m) ts1.tail) := by rw [typeR_list hb, hi]; show (if atB 1 cB ts1 = true then _ else _) = _; rw [hc]; rfl
      rw [hg]
      clear hc hg hb hi
      obtain ⟨RES, hRES⟩ : ∃ RES, bangR n (l + 1) (2 * m) ts1.tail = RES := ⟨_, rfl⟩
      rw [hRES]
      have hR := Lib.hid hRES.symm
      clear hRES
      obtain ⟨l1, hl1⟩ : ∃ l1, l + 1 = l1 := ⟨_, rfl⟩
      obtain ⟨m1, hm1⟩ : ∃ m1, 2 * m = m1 := ⟨_, rfl⟩
      rw [hl1, hm1] at RN hR HLI
      clear hl1 hm1
      go_enter Tryz.func128, Tryz.ntmps128
      go_wp2_with fail
      refine HA.out.mono ?_
      rintro e w1 ⟨rfl, rfl⟩
      go_wp2_with fail
      refine HK.out.mono ?_
      rintro e w2 ⟨rfl, r2, m2⟩
      have K2 := Lib.hid (K0.out.next m2)
      have R2 := Lib.hid r2
      clear r2 m2
      go_wp2_with fail
      refine (HI _ R2.out).out.mono ?_
      rintro e w3 ⟨rfl, r3, m3⟩
      have K3 := Lib.hid (K2.out.next m3)
      have R3 := Lib.hid r3
      clear r3 m3 HI
      go_wp2_with fail
      refine (HLI _).out.mono ?_
      rintro e w4 ⟨rfl, hb4⟩
      have K4 := Lib.hid (K3.out.next (Moved.of_below hb4))
      have R4 := Lib.hid (R3.out.below hb4)
      clear hb4 HLI K0 K2 K3 R0 R2 R3
      obtain ⟨k0, k1, k2, z0, z1, z2⟩ := ty_cells K4.out.2.1
      go_wp2_with fail
      clear k0 k1 k2 z0 z1 z2
      have K5 := Lib.hid (K4.out.set2 (.string n) (.int .i64 (l1 : Int)) (.int .i64 (m1 : Int)))
      have R5 := Lib.hid (((R4.out.set (b := w.heap.size + 1) (i := 0) (v := .string n) (Nat.lt_succ_of_lt K4.out.2.2.2)).set (b := w.heap.size + 1) (i := 1) (v := .int .i64 (l1 : Int)) (Nat.lt_succ_of_lt K4.out.2.2.2)).set (b := w.heap.size + 1) (i := 2) (v := .int .i64 (m1 : Int)) (Nat.lt_succ_of_lt K4.out.2.2.2))
      refine (HN _ R5.out).out.mono ?_
      rintro e w6 ⟨rfl, r6, m6⟩
      have K6 := Lib.hid (K5.out.next m6)
      have R6 := Lib.hid r6
      clear r6 m6 HN K5 R5 K4 R4 HA HK
      go_wp2_with fail
      generalize ts1.tail = ts2 at *
      have HS := Lib.hid (skip_any r ts2 d 1 bB _ R6.out)
      have hbb : Hid (bangR n l1 m1 ts2 = if atB 1 bB ts2 = true then ((n, l1, m1 ||| 1), ts2.tail) else ((n, l1, m1), ts2)) := Lib.hid rfl
      have hst : Hid (skipT 1 bB ts2 = if atB 1 bB ts2 = true then ts2.tail else ts2) := Lib.hid rfl
      generalize atB 1 bB ts2 = q at *
      obtain ⟨k0, k1, k2, z0, z1, z2⟩ := ty_cells K6.out.2.1
      obtain ⟨j0, j1, j2, y0, y1, y2⟩ := ty_cells K6.out.1
      clear k0 k1 k2 z0 z1 z2 j0 j1 j2 y0 y1 y2
      go_wp2_with fail
      cases q with
      | false =>
        refine HS.out.mono ?_
        rintro e wa ⟨rfl, ra, ma⟩
        rw [hst.out] at ra
        have KA := Lib.hid (K6.out.next ma)
        have RA := Lib.hid ra
        obtain ⟨k0, k1, k2, z0, z1, z2⟩ := ty_cells KA.out.2.1
        obtain ⟨j0, j1, j2, y0, y1, y2⟩ := ty_cells KA.out.1
        clear ra ma HS
        go_wp2_with fail
        have KB := Lib.hid (KA.out.set1 (.string n) (.int .i64 (l1 : Nat)) (.int .i64 (m1 : Nat)))
        refine ret_tp rfl rfl rfl KB.out.1 ?_
        rw [hR.out, hbb.out]
        exact ⟨rfl, ((RA.out.set (Nat.lt_of_lt_of_le KA.out.2.2.2 (Nat.le_refl _))).set (Nat.lt_of_lt_of_le KA.out.2.2.2 (Nat.le_refl _))).set (Nat.lt_of_lt_of_le KA.out.2.2.2 (Nat.le_refl _)), KB.out.2.2.1⟩
      | true =>
        refine HS.out.mono ?_
        rintro e wa ⟨rfl, ra, ma⟩
        rw [hst.out] at ra
        have KA := Lib.hid (K6.out.next ma)
        have RA := Lib.hid ra
        have HM := fun wx => Lib.hid (by have h := must_any n (l1 : Nat) (m1 : Nat) wx RN.out.2.1; rw [must_of RN.out hleft] at h; exact h)
        obtain ⟨k0, k1, k2, z0, z1, z2⟩ := ty_cells KA.out.2.1
        clear ra ma HS
        go_wp2_with fail
        refine (HM _).out.mono ?_
        rintro e wb ⟨rfl, hb⟩
        have KB := Lib.hid (KA.out.next (Moved.of_below hb))
        have RB := Lib.hid (RA.out.below hb)
        clear hb k0 k1 k2 z0 z1 z2 HM
        obtain ⟨k0, k1, k2, z0, z1, z2⟩ := ty_cells KB.out.2.1
        obtain ⟨j0, j1, j2, y0, y1, y2⟩ := ty_cells KB.out.1
        go_wp2_with fail
        have KC := Lib.hid ((KB.out.set2 (.string n) (.int .i64 (l1 : Nat)) (.int .i64 ((m1 ||| 1 : Nat) : Int))).set1 (.string n) (.int .i64 (l1 : Nat)) (.int .i64 ((m1 ||| 1 : Nat) : Int)))
        refine ret_tp rfl rfl rfl KC.out.1 ?_
        rw [hR.out, hbb.out]
        have hlt := KB.out.2.2.2
        exact ⟨rfl, (((((RB.out.set (by omega)).set (by omega)).set (by omega)).set (by omega)).set (by omega)).set (by omega), KC.out.2.2.1⟩
theorem typ_any (left : Nat) (hleft : left ≤ 4) : ∀ ts, NamesT ts → TypC left ts := by
  induction left with
  | zero =>
    intro ts hN
    cases hb : atB 1 oB ts with
    | true => exact typ_deep ts hb
    | false => exact typ_name 0 hleft ts hN hb
  | succ left ih =>
    intro ts hN
    cases hb : atB 1 oB ts with
    | true => exact typ_list left hleft (ih (by omega)) ts hN hb
    | false => exact typ_name (left + 1) hleft ts hN hb
end Go.Proofs.YtpkmbhnikilihaaGreatDoor
/- The landed reader: what recovers. -/
namespace Go.Proofs.YtpkmbhnikilihaaGreatDoor
open Go.RowKit

theorem assert_refusal (v : Value) (w : World) : (Instr.typeAssert (.iface 145 v) 20 145 true).run Tryz.prog w = .ok (.tuple #[v, .bool true]) w := by kernel_rfl
end Go.Proofs.YtpkmbhnikilihaaGreatDoor
/- The walk of the library's own reading of four digits to the base 16. -/
namespace Go.Proofs.YtpkmbhnikilihaaGreatDoor
open Go.RowKit

/-- The number that digits to the base 16 are, behind what has been read. -/
def pu : Int → List UInt8 → Option Int
  | acc, [] => some acc
  | acc, b :: t => if hexB b then pu (acc * 16 + hexI b) t else none
def puS (l : List UInt8) : Value := match pu 0 l with | some v => .tuple #[.int .u64 v, .nilIface] | none => .tuple #[.int .u64 0, .iface 254 (.int .i64 2)]
def lowI (b : UInt8) : Int := bits .or .u8 (b.toNat : Int) 32
theorem hex_dig : ∀ b : UInt8, ((48 : Int) ≤ (b.toNat : Int) ∧ (b.toNat : Int) ≤ 57) → hexB b = true ∧ hexI b = (b.toNat : Int) - 48 := byte_all (by decide +kernel)
theorem hex_low : ∀ b : UInt8, ¬ ((48 : Int) ≤ (b.toNat : Int) ∧ (b.toNat : Int) ≤ 57) → (97 : Int) ≤ lowI b → lowI b ≤ 102 → hexB b = true ∧ hexI b = lowI b - 87 := byte_all (by decide +kernel)
theorem hex_not : ∀ b : UInt8, ¬ ((48 : Int) ≤ (b.toNat : Int) ∧ (b.toNat : Int) ≤ 57) → ¬ ((97 : Int) ≤ lowI b ∧ lowI b ≤ 102) → hexB b = false := byte_all (by decide +kernel)
theorem lower_any (b : UInt8) (w : World) : Calls Tryz.prog 295 #[.int .u8 (b.toNat : Int)] w fun e w' => e = .returned (.int .u8 (lowI b)) ∧ w = w' := by
  go_enter Tryz.func295, Tryz.ntmps295
  go_wp2
  go_ret
  exact ⟨rfl, rfl⟩
def lim : Nat → Int | 0 => 1 | 1 => 16 | 2 => 256 | 3 => 4096 | _ => 65536
theorem lim_le {k : Nat} {a : Int} (hk : k < 4) (h : a < lim k) : a ≤ 4095 := by
  rcases (by omega : k = 0 ∨ k = 1 ∨ k = 2 ∨ k = 3) with rfl | rfl | rfl | rfl <;> simp only [lim] at h <;> omega
theorem lim_next {k : Nat} {a d : Int} (hk : k < 4) (h : a < lim k) (hd : d ≤ 15) : a * 16 + d < lim (k + 1) := by
  rcases (by omega : k = 0 ∨ k = 1 ∨ k = 2 ∨ k = 3) with rfl | rfl | rfl | rfl <;> simp only [lim] at h ⊢ <;> omega
theorem below_bytes (w : World) (e : TypeId) (s : ByteArray) : Below w.heap.size w (Lib.bytesWorld w e s) := by
  unfold Lib.bytesWorld
  exact Lib.below_freeze ((Below.drew (Below.refl _ w)).alloc (Nat.le_refl _) _) (p := ⟨w.heap.size, _, none⟩) (Nat.le_refl _) 1

set_option maxRecDepth 100000 in
set_option maxHeartbeats 4000000 in
theorem parse_in (t : ByteArray) (h4 : t.size = 4) (w : World) : Calls Tryz.prog 272 #[.string t, .int .i64 16, .int .i64 16] w fun e w' => e = .returned (puS t.data.toList) ∧ Below w.heap.size w w' := by
  have hemp := empty_no (s := t) (by omega)
  have hcv := Lib.run_convert_string_bytes (P := Tryz.prog) w 9 100 5 t (u := .string) Tryz.underlying9 Tryz.underlying100 Tryz.underlying5
  have hB : ∀ j, j < t.size → (Lib.bytesWorld w 5 t).cell? ⟨w.heap.size, j, none⟩ = some (.int .u8 (t.data.toList.getD j 0).toNat) := fun j hj => Lib.bytesWorld_cell w 5 t j hj
  have hbl := below_bytes w 5 t
  obtain ⟨W1, hW1⟩ : ∃ W1, W1 = Lib.bytesWorld w 5 t := ⟨_, rfl⟩
  rw [← hW1] at hcv hB hbl
  have HBL := Lib.hid hbl
  clear hW1 hbl
  have hLn := len_data t
  obtain ⟨bs, hL⟩ : ∃ bs, bs = t.data.toList := ⟨_, rfl⟩
  rw [← hL] at hB hLn ⊢
  clear hL
  obtain ⟨V, hV⟩ : ∃ V, puS bs = V := ⟨_, rfl⟩
  have HV := Lib.hid hV
  rw [hV]
  clear hV
  have hmv : IntKind.u64.wrap (IntKind.u64.wrap 65536 - 1) = 65535 := by
    rw [IntKind.wrap_u64, IntKind.wrap_u64]
    decide
  go_enter Tryz.func272, Tryz.ntmps272
  go_wp2
  go_loop [12, 13, 101] (fun vu vn vi => ∃ (k : Nat) (a : Int), vu = .bool false ∧ vn = .int .u64 a ∧ vi = .int .i64 k ∧ k ≤ t.size ∧ Hid (0 ≤ a ∧ a < lim k ∧ pu 0 bs = pu a (bs.drop k)))
    (fun _ _ vi => t.size - (intOf vi).toNat)
  case atStart => exact ⟨0, 0, rfl, rfl, rfl, by omega, Lib.hid ⟨by omega, by simp [lim], rfl⟩⟩
  case round =>
    obtain ⟨k, a, rfl, rfl, rfl, hk, hh⟩ := hrel
    obtain ⟨a0, hal, hdec⟩ := hh.out
    clear hh
    by_cases hkn : k < t.size
    · have hk4 : k < 4 := by omega
      have a1 := lim_le hk4 hal
      have hc := hB k hkn
      have hdrop : bs.drop k = bs[k]'(by omega) :: bs.drop (k + 1) := List.drop_eq_getElem_cons (by omega)
      have hget : bs.getD k 0 = bs[k]'(by omega) := by simp [List.getD, List.getElem?_eq_getElem (show k < bs.length by omega)]
      rw [hdrop] at hdec
      rw [hget] at hc
      generalize bs[k]'(by omega) = c at hc hdec
      have hc256 : c.toNat < 256 := c.toNat_lt
      have HLO := Lib.hid (lower_any c W1)
      clear hB hdrop hget
      have h95 : ((c.toNat : Int) == 95) = true ∨ ((c.toNat : Int) == 95) = false := by cases ((c.toNat : Int) == 95) <;> simp
      by_cases hd0 : (48 : Int) ≤ (c.toNat : Int) ∧ (c.toNat : Int) ≤ 57
      · obtain ⟨hx, hv⟩ := hex_dig c hd0
        obtain ⟨d0, d1⟩ := hd0
        have HN : Hid (0 ≤ a * 16 + ((c.toNat : Int) - 48) ∧ a * 16 + ((c.toNat : Int) - 48) < lim (k + 1) ∧ pu 0 bs = pu (a * 16 + ((c.toNat : Int) - 48)) (bs.drop (k + 1))) := Lib.hid ⟨by omega, lim_next hk4 hal (by omega), hdec.trans (by rw [pu, hx, hv]; rfl)⟩
        clear hdec hx hv hal h95
        go_wp2
        refine ⟨⟨k + 1, a * 16 + ((c.toNat : Int) - 48), rfl, (by first | rfl | (congr 1; omega)), (by first | rfl | (congr 1; omega)), by omega, HN⟩, by simp [intOf]; omega⟩
      · have hdd : (c.toNat : Int) < 48 ∨ (57 < (c.toNat : Int)) := by omega
        by_cases hl : (97 : Int) ≤ lowI c ∧ lowI c ≤ 102
        · obtain ⟨hx, hv⟩ := hex_low c hd0 hl.1 hl.2
          obtain ⟨l0, l1⟩ := hl
          have l2 : lowI c ≤ 122 := by omega
          have l3 : lowI c - 87 < 16 := by omega
          have HN : Hid (0 ≤ a * 16 + (lowI c - 87) ∧ a * 16 + (lowI c - 87) < lim (k + 1) ∧ pu 0 bs = pu (a * 16 + (lowI c - 87)) (bs.drop (k + 1))) := Lib.hid ⟨by omega, lim_next hk4 hal (by omega), hdec.trans (by rw [pu, hx, hv]; rfl)⟩
          generalize lowI c = v at *
          clear hdec hx hv hal hd0
          rcases h95 with h95 | h95
          · rcases hdd with hdd | hdd
            · have hdd3 : ¬ (48 : Int) ≤ (c.toNat : Int) := by omega
              go_wp2_with fail
              refine HLO.out.mono ?_
              rintro e w1 ⟨rfl, rfl⟩
              go_wp2_with fail
              refine HLO.out.mono ?_
              rintro e w1 ⟨rfl, rfl⟩
              go_wp2_with fail
              refine HLO.out.mono ?_
              rintro e w1 ⟨rfl, rfl⟩
              go_wp2_with fail
              refine ⟨⟨k + 1, a * 16 + (v - 87), rfl, (by first | rfl | (congr 1; omega)), (by first | rfl | (congr 1; omega)), by omega, HN⟩, by simp [intOf]; omega⟩
            · have hdd1 : (48 : Int) ≤ (c.toNat : Int) := by omega
              have hdd2 : ¬ (c.toNat : Int) ≤ 57 := by omega
              go_wp2_with fail
              refine HLO.out.mono ?_
              rintro e w1 ⟨rfl, rfl⟩
              go_wp2_with fail
              refine HLO.out.mono ?_
              rintro e w1 ⟨rfl, rfl⟩
              go_wp2_with fail
              refine HLO.out.mono ?_
              rintro e w1 ⟨rfl, rfl⟩
              go_wp2_with fail
              refine ⟨⟨k + 1, a * 16 + (v - 87), rfl, (by first | rfl | (congr 1; omega)), (by first | rfl | (congr 1; omega)), by omega, HN⟩, by simp [intOf]; omega⟩
          · rcases hdd with hdd | hdd
            · have hdd3 : ¬ (48 : Int) ≤ (c.toNat : Int) := by omega
              go_wp2_with fail
              refine HLO.out.mono ?_
              rintro e w1 ⟨rfl, rfl⟩
              go_wp2_with fail
              refine HLO.out.mono ?_
              rintro e w1 ⟨rfl, rfl⟩
              go_wp2_with fail
              refine HLO.out.mono ?_
              rintro e w1 ⟨rfl, rfl⟩
              go_wp2_with fail
              refine ⟨⟨k + 1, a * 16 + (v - 87), rfl, (by first | rfl | (congr 1; omega)), (by first | rfl | (congr 1; omega)), by omega, HN⟩, by simp [intOf]; omega⟩
            · have hdd1 : (48 : Int) ≤ (c.toNat : Int) := by omega
              have hdd2 : ¬ (c.toNat : Int) ≤ 57 := by omega
              go_wp2_with fail
              refine HLO.out.mono ?_
              rintro e w1 ⟨rfl, rfl⟩
              go_wp2_with fail
              refine HLO.out.mono ?_
              rintro e w1 ⟨rfl, rfl⟩
              go_wp2_with fail
              refine HLO.out.mono ?_
              rintro e w1 ⟨rfl, rfl⟩
              go_wp2_with fail
              refine ⟨⟨k + 1, a * 16 + (v - 87), rfl, (by first | rfl | (congr 1; omega)), (by first | rfl | (congr 1; omega)), by omega, HN⟩, by simp [intOf]; omega⟩
        · have hx := hex_not c hd0 hl
          have hF : Hid (V = .tuple #[.int .u64 0, .iface 254 (.int .i64 2)]) := Lib.hid (by rw [← HV.out, puS, show pu 0 bs = none from hdec.trans (by simp [pu, hx])])
          have hlow := bits_lo_u8 .or (c.toNat : Int) 32
          have hhi := bits_hi_u8 .or (c.toNat : Int) 32
          change 0 ≤ lowI c at hlow
          change lowI c ≤ 255 at hhi
          generalize lowI c = v at *
          clear hdec hx hal hd0 HV
          rcases (by omega : v < 97 ∨ (97 ≤ v ∧ 122 < v) ∨ (97 ≤ v ∧ v ≤ 122 ∧ 103 ≤ v)) with l0 | ⟨l0, l1⟩ | ⟨l0, l1, l2⟩
          · clear hl
            have l9 : ¬ 97 ≤ v := by omega
            rcases h95 with h95 | h95
            · rcases hdd with hdd | hdd
              · have hdd3 : ¬ (48 : Int) ≤ (c.toNat : Int) := by omega
                go_wp2_with fail
                refine HLO.out.mono ?_
                rintro e w1 ⟨rfl, rfl⟩
                go_wp2_with fail
                go_ret2
                exact ⟨by rw [hF.out]; rfl, HBL.out⟩
              · have hdd1 : (48 : Int) ≤ (c.toNat : Int) := by omega
                have hdd2 : ¬ (c.toNat : Int) ≤ 57 := by omega
                go_wp2_with fail
                refine HLO.out.mono ?_
                rintro e w1 ⟨rfl, rfl⟩
                go_wp2_with fail
                go_ret2
                exact ⟨by rw [hF.out]; rfl, HBL.out⟩
            · rcases hdd with hdd | hdd
              · have hdd3 : ¬ (48 : Int) ≤ (c.toNat : Int) := by omega
                go_wp2_with fail
                refine HLO.out.mono ?_
                rintro e w1 ⟨rfl, rfl⟩
                go_wp2_with fail
                go_ret2
                exact ⟨by rw [hF.out]; rfl, HBL.out⟩
              · have hdd1 : (48 : Int) ≤ (c.toNat : Int) := by omega
                have hdd2 : ¬ (c.toNat : Int) ≤ 57 := by omega
                go_wp2_with fail
                refine HLO.out.mono ?_
                rintro e w1 ⟨rfl, rfl⟩
                go_wp2_with fail
                go_ret2
                exact ⟨by rw [hF.out]; rfl, HBL.out⟩
          · clear hl
            have l9 : ¬ v ≤ 122 := by omega
            rcases h95 with h95 | h95
            · rcases hdd with hdd | hdd
              · have hdd3 : ¬ (48 : Int) ≤ (c.toNat : Int) := by omega
                go_wp2_with fail
                refine HLO.out.mono ?_
                rintro e w1 ⟨rfl, rfl⟩
                go_wp2_with fail
                refine HLO.out.mono ?_
                rintro e w1 ⟨rfl, rfl⟩
                go_wp2_with fail
                go_ret2
                exact ⟨by rw [hF.out]; rfl, HBL.out⟩
              · have hdd1 : (48 : Int) ≤ (c.toNat : Int) := by omega
                have hdd2 : ¬ (c.toNat : Int) ≤ 57 := by omega
                go_wp2_with fail
                refine HLO.out.mono ?_
                rintro e w1 ⟨rfl, rfl⟩
                go_wp2_with fail
                refine HLO.out.mono ?_
                rintro e w1 ⟨rfl, rfl⟩
                go_wp2_with fail
                go_ret2
                exact ⟨by rw [hF.out]; rfl, HBL.out⟩
            · rcases hdd with hdd | hdd
              · have hdd3 : ¬ (48 : Int) ≤ (c.toNat : Int) := by omega
                go_wp2_with fail
                refine HLO.out.mono ?_
                rintro e w1 ⟨rfl, rfl⟩
                go_wp2_with fail
                refine HLO.out.mono ?_
                rintro e w1 ⟨rfl, rfl⟩
                go_wp2_with fail
                go_ret2
                exact ⟨by rw [hF.out]; rfl, HBL.out⟩
              · have hdd1 : (48 : Int) ≤ (c.toNat : Int) := by omega
                have hdd2 : ¬ (c.toNat : Int) ≤ 57 := by omega
                go_wp2_with fail
                refine HLO.out.mono ?_
                rintro e w1 ⟨rfl, rfl⟩
                go_wp2_with fail
                refine HLO.out.mono ?_
                rintro e w1 ⟨rfl, rfl⟩
                go_wp2_with fail
                go_ret2
                exact ⟨by rw [hF.out]; rfl, HBL.out⟩
          · clear hl
            have l9 : ¬ v - 87 < 16 := by omega
            have l8 : 16 ≤ v - 87 := by omega
            rcases h95 with h95 | h95
            · rcases hdd with hdd | hdd
              · have hdd3 : ¬ (48 : Int) ≤ (c.toNat : Int) := by omega
                go_wp2_with fail
                refine HLO.out.mono ?_
                rintro e w1 ⟨rfl, rfl⟩
                go_wp2_with fail
                refine HLO.out.mono ?_
                rintro e w1 ⟨rfl, rfl⟩
                go_wp2_with fail
                refine HLO.out.mono ?_
                rintro e w1 ⟨rfl, rfl⟩
                go_wp2_with fail
                go_ret2
                exact ⟨by rw [hF.out]; rfl, HBL.out⟩
              · have hdd1 : (48 : Int) ≤ (c.toNat : Int) := by omega
                have hdd2 : ¬ (c.toNat : Int) ≤ 57 := by omega
                go_wp2_with fail
                refine HLO.out.mono ?_
                rintro e w1 ⟨rfl, rfl⟩
                go_wp2_with fail
                refine HLO.out.mono ?_
                rintro e w1 ⟨rfl, rfl⟩
                go_wp2_with fail
                refine HLO.out.mono ?_
                rintro e w1 ⟨rfl, rfl⟩
                go_wp2_with fail
                go_ret2
                exact ⟨by rw [hF.out]; rfl, HBL.out⟩
            · rcases hdd with hdd | hdd
              · have hdd3 : ¬ (48 : Int) ≤ (c.toNat : Int) := by omega
                go_wp2_with fail
                refine HLO.out.mono ?_
                rintro e w1 ⟨rfl, rfl⟩
                go_wp2_with fail
                refine HLO.out.mono ?_
                rintro e w1 ⟨rfl, rfl⟩
                go_wp2_with fail
                refine HLO.out.mono ?_
                rintro e w1 ⟨rfl, rfl⟩
                go_wp2_with fail
                go_ret2
                exact ⟨by rw [hF.out]; rfl, HBL.out⟩
              · have hdd1 : (48 : Int) ≤ (c.toNat : Int) := by omega
                have hdd2 : ¬ (c.toNat : Int) ≤ 57 := by omega
                go_wp2_with fail
                refine HLO.out.mono ?_
                rintro e w1 ⟨rfl, rfl⟩
                go_wp2_with fail
                refine HLO.out.mono ?_
                rintro e w1 ⟨rfl, rfl⟩
                go_wp2_with fail
                refine HLO.out.mono ?_
                rintro e w1 ⟨rfl, rfl⟩
                go_wp2_with fail
                go_ret2
                exact ⟨by rw [hF.out]; rfl, HBL.out⟩
    · have hkk : k = t.size := by omega
      have hF : Hid (pu 0 bs = some a) := Lib.hid (hdec.trans (by rw [List.drop_eq_nil_of_le (by omega)]; rfl))
      subst hkk
      clear hdec hal
      go_wp2
      go_ret2
      exact ⟨by rw [← HV.out, puS, hF.out]; rfl, HBL.out⟩
end Go.Proofs.YtpkmbhnikilihaaGreatDoor
