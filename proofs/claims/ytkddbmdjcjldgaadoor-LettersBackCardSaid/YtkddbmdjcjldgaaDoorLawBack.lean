/- The walk of the law LettersBack, at every input. -/
import Derived.Test.YtkddbmdjcjldgaaDoorSame
import Derived.Test.YtkddbmdjcjldgaaDoorSlice
namespace Go.Proofs.YtkddbmdjcjldgaaDoor
open Go.RowKit

theorem IntsAt.next {w w' : World} {A : Option Addr} {n : Nat} {zs : List Int} (h : IntsAt w w.heap.size A n zs) (hb : Below w.heap.size w w') : IntsAt w' w'.heap.size A n zs := (h.below hb).more hb.size
theorem codes_len : ∀ (n : Nat) (l : List UInt8) (cs : List Int), l.length ≤ n → codes l = some cs → cs.length ≤ l.length := by
  intro n
  induction n with
  | zero =>
    intro l cs hl h
    have : l = [] := List.eq_nil_of_length_eq_zero (by omega)
    subst this
    rw [codes_nil, Option.some.injEq] at h
    subst h
    simp
  | succ n ih =>
    intro l cs hl h
    by_cases hn : l = []
    · subst hn
      rw [codes_nil, Option.some.injEq] at h
      subst h
      simp
    · by_cases h0 : (dec l).2 = 0
      · rw [codes_bad hn h0] at h; cases h
      · rw [codes_step hn h0] at h
        obtain ⟨cs', h', rfl⟩ := Option.map_eq_some_iff.1 h
        have hb := dec_bd l
        have := ih _ cs' (by rw [List.length_drop]; omega) h'
        rw [List.length_drop] at this
        rw [List.length_cons]
        omega
theorem unitsS_len (l : List UInt8) : (unitsS l).length ≤ 2 * l.length := by
  unfold unitsS
  cases h : codes l with
  | none => simp
  | some cs => have := unitsOf_len cs; have := codes_len _ l cs (Nat.le_refl _) h; simp only; omega
theorem unitsS_bad {l : List UInt8} (h : goodB l = false) : unitsS l = [] := by
  rw [goodB_iff] at h
  unfold unitsS
  cases hc : codes l with
  | none => rfl
  | some cs => rw [hc] at h; cases h
theorem join_units {s : ByteArray} (h : goodB s.data.toList = true) : joinS (unitsS s.data.toList) = s ∧ joinOk (unitsS s.data.toList) = true := by
  rw [goodB_iff] at h
  cases hc : codes s.data.toList with
  | none => rw [hc] at h; cases h
  | some cs =>
    obtain ⟨a, b⟩ := bytes_codes _ _ cs (Nat.le_refl _) hc
    have e : joinL (unitsS s.data.toList) = some s.data.toList := by
      unfold unitsS joinL
      rw [hc]
      show Option.map bytesOf (pairUp (unitsOf cs)) = _
      rw [pairUp_units cs b, ← a]; rfl
    unfold joinS joinOk
    rw [e]
    exact ⟨rfl, rfl⟩
theorem bytes_len3 : ∀ cs : List Int, cs.all okB = true → (bytesOf cs).length ≤ 3 * (unitsOf cs).length := by
  intro cs
  induction cs with
  | nil => intro _; simp [bytesOf, unitsOf]
  | cons c cs ih =>
    intro h
    rw [List.all_cons, Bool.and_eq_true] at h
    have hok : 0 ≤ c ∧ c ≤ 1114111 ∧ halfB c = false := by simpa [okB] using h.1
    have hi := ih h.2
    have e1 : (bytesOf (c :: cs)).length = (Lib.encodeRune c).length + (bytesOf cs).length := by simp [bytesOf]
    have e2 : (unitsOf (c :: cs)).length = (unitOf c).length + (unitsOf cs).length := by simp [unitsOf]
    rw [e1, e2]
    have : (Lib.encodeRune c).length ≤ 3 * (unitOf c).length := by
      by_cases h6 : c < 65536
      · have : (unitOf c).length = 1 := by unfold unitOf; rw [if_pos h6]; rfl
        rw [this]
        have hh : ¬ (55296 ≤ c ∧ c ≤ 57343) := by simpa [halfB] using hok.2.2
        by_cases a1 : c ≤ 127
        · simp [Lib.encodeRune, Lib.encodeRuneZ_one hok.1 a1]
        by_cases a2 : c ≤ 2047
        · simp [Lib.encodeRune, Lib.encodeRuneZ_two (show 128 ≤ c by omega) a2]
        · simp [Lib.encodeRune, Lib.encodeRuneZ_three (show (2048 ≤ c ∧ c < 55296) ∨ (57343 < c ∧ c ≤ 65535) by omega)]
      · have : (unitOf c).length = 2 := by unfold unitOf; rw [if_neg h6]; rfl
        have := encode_len c
        omega
    omega
theorem units_join {zs : List Int} (h : joinOk zs = true) : unitsS (joinS zs).data.toList = zs ∧ goodB (joinS zs).data.toList = true ∧ (joinS zs).size ≤ 3 * zs.length := by
  unfold joinOk at h
  cases hj : joinL zs with
  | none => rw [hj] at h; cases h
  | some t =>
    have hp := hj
    unfold joinL at hp
    obtain ⟨cs, hcs, rfl⟩ := Option.map_eq_some_iff.1 hp
    obtain ⟨a, b⟩ := units_of_pairUp _ zs cs (Nat.le_refl _) hcs
    have e : joinS zs = ⟨(bytesOf cs).toArray⟩ := by unfold joinS; rw [hj]
    have hc : codes (bytesOf cs) = some cs := by
      have := codes_bytes cs [] b
      simpa [codes_nil] using this
    have e2 : (joinS zs).data.toList = bytesOf cs := by rw [e]
    refine ⟨?_, ?_, ?_⟩
    · rw [e2]; unfold unitsS; rw [hc]; exact a
    · rw [e2, goodB_iff, hc]; rfl
    · rw [Lib.size_eq, e2, ← a]; exact bytes_len3 cs b
theorem join_bad {zs : List Int} (h : joinOk zs = false) : joinS zs = ⟨#[]⟩ := by
  unfold joinOk at h
  unfold joinS
  cases hj : joinL zs with
  | none => rfl
  | some t => rw [hj] at h; cases h

theorem back_big (s : ByteArray) (A : Option Addr) (n c : Nat) (w : World) (hbig : 3000 < s.size ∨ 3000 < n) (ht : TabAt w) :
    Calls Tryd.prog 5 #[.string s, .slice A n c] w fun e w' => e = .returned (.bool true) ∧ Below w.heap.size w w' := by
  have HA := Lib.hid (awake_any w ht)
  clear ht
  by_cases h1 : 3000 < s.size
  · go_enter Tryd.func5, Tryd.ntmps5
    go_wp2_with fail
    refine HA.out.mono ?_
    rintro e w1 ⟨rfl, hb⟩
    go_wp2_with fail
    go_ret
    exact ⟨rfl, hb⟩
  · have h2 : 3000 < n := by omega
    clear hbig
    go_enter Tryd.func5, Tryd.ntmps5
    go_wp2_with fail
    refine HA.out.mono ?_
    rintro e w1 ⟨rfl, hb⟩
    go_wp2_with fail
    go_ret
    exact ⟨rfl, hb⟩

set_option maxRecDepth 100000 in
set_option maxHeartbeats 2000000 in
theorem back_small (s : ByteArray) (A : Option Addr) (n c : Nat) (zs : List Int) (w : World) (h1 : s.size ≤ 3000) (h2 : n ≤ 3000) (hz : IntsAt w w.heap.size A n zs) (ht : TabAt w) :
    Calls Tryd.prog 5 #[.string s, .slice A n c] w fun e w' => e = .returned (.bool true) ∧ Below w.heap.size w w' := by
  have K0 := Lib.hid (Kept.start ht)
  have HZ := Lib.hid hz
  have HU := Lib.hid (units_any s w (by omega) ht)
  have hul := unitsS_len s.data.toList
  rw [← Lib.size_eq] at hul
  clear ht hz
  have ess : (s.toList == s.toList) = true := by simp
  have ess' : (s.toList != s.toList) = false := by simp
  cases hg : goodB s.data.toList
  · have HG := Lib.hid hg
    have HU0 := Lib.hid (unitsS_bad hg)
    clear hg
    go_enter Tryd.func5, Tryd.ntmps5
    go_wp2_with fail
    refine HU.out.mono ?_
    rintro e w1 ⟨A1, c1, rfl, I1, hb1⟩
    rw [HG.out, HU0.out]
    rw [HU0.out] at I1
    have K1 := Lib.hid (K0.out.next hb1)
    have Z1 := Lib.hid (HZ.out.next hb1)
    have J1 := Lib.hid I1
    clear hb1 I1
    go_wp2_with fail
    refine (good_any s w1 (by omega) K1.out.1).mono ?_
    rintro e w2 ⟨rfl, hb2⟩
    rw [HG.out]
    have K2 := Lib.hid (K1.out.next hb2)
    have Z2 := Lib.hid (Z1.out.next hb2)
    have J2 := Lib.hid (J1.out.next hb2)
    clear hb2
    go_wp2_with fail
    refine (join_any A1 0 c1 [] w2 (by omega) J2.out).mono ?_
    rintro e w3 ⟨rfl, hb3⟩
    have K3 := Lib.hid (K2.out.next hb3)
    have Z3 := Lib.hid (Z2.out.next hb3)
    clear hb3
    cases hj : joinOk zs
    · have HJ := Lib.hid hj
      have HE := Lib.hid (join_bad hj)
      clear hj
      go_wp2_with fail
      refine (join_any A n c zs w3 (by omega) Z3.out).mono ?_
      rintro e w4 ⟨rfl, hb4⟩
      rw [HJ.out, HE.out]
      have K4 := Lib.hid (K3.out.next hb4)
      clear hb4
      go_wp2_with fail
      refine (awake_k K4.out).mono ?_
      rintro e w5 ⟨rfl, K5⟩
      go_wp2_with fail
      go_ret
      exact ⟨rfl, K5.2⟩
    · have HJ := Lib.hid hj
      have hx := units_join hj
      have HX1 := Lib.hid hx.1
      have HX2 := Lib.hid hx.2.1
      have hx3 := hx.2.2
      have hx4 : (joinS zs).size ≤ 9000 := by have := Z3.out.1; omega
      clear hj hx hx3
      go_wp2_with fail
      refine (join_any A n c zs w3 (by omega) Z3.out).mono ?_
      rintro e w4 ⟨rfl, hb4⟩
      rw [HJ.out]
      generalize joinS zs = T at *
      have K4 := Lib.hid (K3.out.next hb4)
      have Z4 := Lib.hid (Z3.out.next hb4)
      clear hb4
      go_wp2_with fail
      refine (units_any T w4 hx4 K4.out.1).mono ?_
      rintro e w5 ⟨A5, c5, rfl, I5, hb5⟩
      rw [HX2.out]
      rw [HX1.out] at I5
      rw [HX1.out]
      have K5 := Lib.hid (K4.out.next hb5)
      have Z5 := Lib.hid (Z4.out.next hb5)
      have J5 := Lib.hid I5
      clear hb5 I5
      have hzl : zs.length ≤ 100000 := by have := Z3.out.1; omega
      go_wp2_with fail
      refine (sameInts_any A5 A zs.length n c5 c zs zs w5 hzl J5.out Z5.out).mono ?_
      rintro e w6 ⟨rfl, hb6⟩
      rw [decide_eq_true (rfl : zs = zs)]
      have K6 := Lib.hid (K5.out.next hb6)
      clear hb6
      go_wp2_with fail
      refine (awake_k K6.out).mono ?_
      rintro e w7 ⟨rfl, K7⟩
      go_wp2_with fail
      go_ret
      exact ⟨rfl, K7.2⟩
  · have HG := Lib.hid hg
    have hju := join_units hg
    have HJ1 := Lib.hid hju.1
    have HJ2 := Lib.hid hju.2
    clear hg hju
    go_enter Tryd.func5, Tryd.ntmps5
    go_wp2_with fail
    refine HU.out.mono ?_
    rintro e w1 ⟨A1, c1, rfl, I1, hb1⟩
    rw [HG.out]
    generalize unitsS s.data.toList = us at *
    have K1 := Lib.hid (K0.out.next hb1)
    have Z1 := Lib.hid (HZ.out.next hb1)
    have J1 := Lib.hid I1
    clear hb1 I1
    go_wp2_with fail
    refine (good_any s w1 (by omega) K1.out.1).mono ?_
    rintro e w2 ⟨rfl, hb2⟩
    rw [HG.out]
    have K2 := Lib.hid (K1.out.next hb2)
    have Z2 := Lib.hid (Z1.out.next hb2)
    have J2 := Lib.hid (J1.out.next hb2)
    clear hb2
    go_wp2_with fail
    refine (join_any A1 us.length c1 us w2 (by omega) J2.out).mono ?_
    rintro e w3 ⟨rfl, hb3⟩
    rw [HJ1.out, HJ2.out]
    have K3 := Lib.hid (K2.out.next hb3)
    have Z3 := Lib.hid (Z2.out.next hb3)
    clear hb3
    cases hj : joinOk zs
    · have HJ := Lib.hid hj
      have HE := Lib.hid (join_bad hj)
      clear hj
      go_wp2_with fail
      refine (join_any A n c zs w3 (by omega) Z3.out).mono ?_
      rintro e w4 ⟨rfl, hb4⟩
      rw [HJ.out, HE.out]
      have K4 := Lib.hid (K3.out.next hb4)
      clear hb4
      go_wp2_with fail
      refine (awake_k K4.out).mono ?_
      rintro e w5 ⟨rfl, K5⟩
      go_wp2_with fail
      go_ret
      exact ⟨rfl, K5.2⟩
    · have HJ := Lib.hid hj
      have hx := units_join hj
      have HX1 := Lib.hid hx.1
      have HX2 := Lib.hid hx.2.1
      have hx3 := hx.2.2
      have hx4 : (joinS zs).size ≤ 9000 := by have := Z3.out.1; omega
      clear hj hx hx3
      go_wp2_with fail
      refine (join_any A n c zs w3 (by omega) Z3.out).mono ?_
      rintro e w4 ⟨rfl, hb4⟩
      rw [HJ.out]
      generalize joinS zs = T at *
      have K4 := Lib.hid (K3.out.next hb4)
      have Z4 := Lib.hid (Z3.out.next hb4)
      clear hb4
      go_wp2_with fail
      refine (units_any T w4 hx4 K4.out.1).mono ?_
      rintro e w5 ⟨A5, c5, rfl, I5, hb5⟩
      rw [HX2.out]
      rw [HX1.out] at I5
      rw [HX1.out]
      have K5 := Lib.hid (K4.out.next hb5)
      have Z5 := Lib.hid (Z4.out.next hb5)
      have J5 := Lib.hid I5
      clear hb5 I5
      have hzl : zs.length ≤ 100000 := by have := Z3.out.1; omega
      go_wp2_with fail
      refine (sameInts_any A5 A zs.length n c5 c zs zs w5 hzl J5.out Z5.out).mono ?_
      rintro e w6 ⟨rfl, hb6⟩
      rw [decide_eq_true (rfl : zs = zs)]
      have K6 := Lib.hid (K5.out.next hb6)
      clear hb6
      go_wp2_with fail
      refine (awake_k K6.out).mono ?_
      rintro e w7 ⟨rfl, K7⟩
      go_wp2_with fail
      go_ret
      exact ⟨rfl, K7.2⟩
namespace LBack
theorem walk (w : World) (ht : TabAt w) (s : ByteArray) (A : Option Addr) (n c : Nat) (zs : List Int) (hz : IntsAt w w.heap.size A n zs ∧ ∀ z ∈ zs, (Lit.int .i64 z).wf = true) :
    Calls Tryd.prog 5 #[.string s, .slice A n c] w fun e w' => e = .returned (.bool true) ∧ Below w.heap.size w w' := by
  by_cases h : 3000 < s.size ∨ 3000 < n
  · exact back_big s A n c w h ht
  · exact back_small s A n c zs w (by omega) (by omega) hz.1 ht
end LBack
end Go.Proofs.YtkddbmdjcjldgaaDoor
