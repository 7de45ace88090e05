/- The walk of the law BlockIndents, from the package's contracts. -/
import Derived.Test.YtecigjpolekpdaaBlockOf
namespace Go.Proofs.Ytecigjpolekpdaa
open Go.RowKit

theorem texts_any (A : Option Addr) (n c : Nat) (zs : List ByteArray) (w : World) (hn : n ≤ 3000) (hz : StrsAt w w.heap.size A n zs) (h0 : A = none → n = 0 ∧ c = 0) :
    Calls Try.prog 16 #[.slice A n c] w fun e w' => Copied w w' n zs e := by
  cases A with
  | none =>
    obtain ⟨rfl, rfl⟩ := h0 rfl
    have : zs = [] := List.eq_nil_of_length_eq_zero hz.1
    subst this
    exact texts_none w
  | some ad => exact texts_some ad n c zs w hn hz

set_option maxRecDepth 100000 in
set_option maxHeartbeats 1000000 in
theorem bindents_walk {I : World → Prop} (B : BlockOf I) (w : World) (hI : I w) (A : Option Addr) (n c : Nat) (xs : List ByteArray) (hz : StrsAt w w.heap.size A n xs) (h0 : A = none → n = 0 ∧ c = 0) :
    Calls Try.prog 4 #[.slice A n c] w fun e w' => e = .returned (.bool true) ∧ Below w.heap.size w w' := by
  have K0 := Lib.hid (KeptI.start hI)
  have Z0 := Lib.hid hz
  have H0 := Lib.hid h0
  clear hI hz h0
  by_cases hbig : 300 < n
  · go_enter Try.func4, Try.ntmps4
    go_wp2_with fail
    refine (awake_b B K0.out).mono ?_
    rintro e w1 ⟨rfl, K⟩
    go_wp2_with fail
    go_ret
    exact ⟨rfl, K.2⟩
  go_enter Try.func4, Try.ntmps4
  go_wp2_with fail
  go_loopg [3] n (fun g i wx => ∃ k : Nat, k + g = n ∧ i = .int .i64 k ∧ Aside (∀ (j : Nat) x, j < k → xs[j]? = some x → x.size ≤ 300) ∧ w = wx)
  case atStart => exact ⟨0, by omega, rfl, Aside.intro (fun j x h => by omega), rfl⟩
  case round =>
    obtain ⟨k, hk, rfl, H, rfl⟩ := hrel
    cases gk with
    | zero =>
      obtain rfl : k = n := by omega
      have HX : Hid (∀ x ∈ xs, x.size ≤ 300) := Lib.hid (by
        intro x hx
        obtain ⟨j, hj⟩ := List.mem_iff_getElem?.1 hx
        exact H.out j x (by have := (List.getElem?_eq_some_iff.1 hj).1; have := Z0.out.1; omega) hj)
      clear H
      have HC := Lib.hid (texts_any A k c xs w (by omega) Z0.out H0.out)
      go_wp2_with fail
      refine HC.out.mono ?_
      rintro e w1 ⟨g, cap, rfl, hcap, I1, hb1⟩
      have K1 := Lib.hid (K0.out.next B hb1)
      have Z1 := Lib.hid (Z0.out.on hb1)
      have J1 := Lib.hid I1
      have hcap' := Lib.hid hcap
      clear hb1 I1 hcap HC
      go_wp2_with fail
      refine (indent_k B K1.out (some ⟨g, 0, none⟩) k cap xs (by omega) J1.out.init (fun x hx => by have := HX.out x hx; omega)).mono ?_
      rintro e w2 ⟨rfl, k2, hb2⟩
      have K2 := Lib.hid k2
      have Z2 := Lib.hid (Z1.out.on hb2)
      have J2 := Lib.hid (J1.out.on hb2)
      clear hb2 k2
      go_wp2_with fail
      refine (rindent_any A k c xs w2 (by omega) Z2.out (fun x hx => by have := HX.out x hx; omega)).mono ?_
      rintro e w3 ⟨rfl, rfl⟩
      generalize indentL (bytesL xs) = v at *
      go_wp2_with fail
      refine (stay_any g k cap c A xs w2 (by omega) hcap'.out J2.out Z2.out).mono ?_
      rintro e w4 ⟨rfl, hb4⟩
      have K4 := Lib.hid (K2.out.next B hb4)
      clear hb4
      go_wp2_with fail
      refine (awake_b B K4.out).mono ?_
      rintro e w5 ⟨rfl, K5⟩
      go_wp2_with fail
      go_ret
      exact ⟨rfl, K5.2⟩
    | succ g =>
      have hlt : k < n := by omega
      have hlt' : (k : Int) < (n : Int) := by omega
      have hk0 : (0 : Int) ≤ (k : Int) := by omega
      obtain ⟨x, hx⟩ : ∃ x, xs[k]? = some x := ⟨_, List.getElem?_eq_getElem (by rw [Z0.out.1]; omega)⟩
      obtain ⟨b, o, rfl, _, hcell⟩ := Z0.out.2 k x hx
      by_cases hxb : 300 < x.size
      · clear H hx
        go_wp2_with fail
        refine (awake_b B K0.out).mono ?_
        rintro e w1 ⟨rfl, K⟩
        go_wp2_with fail
        go_ret
        exact ⟨rfl, K.2⟩
      · have HN : Hid (∀ (j : Nat) y, j < k + 1 → xs[j]? = some y → y.size ≤ 300) := Lib.hid (by
          intro j y hj hy
          by_cases e : j = k
          · subst e
            rw [hx] at hy
            cases hy
            omega
          · exact H.out j y (by omega) hy)
        clear H hx
        go_wp2_with fail
        go_roundg g
        case measure => omega
        case rel => exact ⟨k + 1, by omega, by go_num, Aside.intro HN.out, rfl⟩
namespace LBIndents
theorem walk (B : BlockOf fun _ => True) (w : World) (A : Option Addr) (n c : Nat) (xs : List ByteArray) (h : StrsAt w w.heap.size A n xs ∧ (A = none → n = 0 ∧ c = 0)) : Calls Try.prog 4 #[.slice A n c] w fun e w' => e = .returned (.bool true) ∧ Below w.heap.size w w' := bindents_walk B w trivial A n c xs h.1 h.2
end LBIndents
end Go.Proofs.Ytecigjpolekpdaa
