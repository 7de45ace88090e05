/- The walks of value.Depth and of the document's own. -/
import Derived.Test.YtcdcfhplkimecaaDoorVWithin
namespace Go.Proofs.YtcdcfhplkimecaaDoor
open Go.RowKit

theorem kids_get_size {v x : VT} {j : Nat} (h : v.kids.get j = some x) : sizeV x + 1 ≤ sizeV v := by
  have := size_kids v
  have := sizeL_get h
  omega
theorem RowV.alloc {w : World} {B : Nat} {l : VL} {A : Option Addr} (h : RowV w B l A) (hB : B ≤ w.heap.size) (o : Obj) : RowV (w.alloc o) B l A := h.below hB ((Below.refl _ _).alloc (Nat.le_refl _) o)
theorem ret_int {a b : Int} (h : a = b) : Ending.returned (.int .i64 a) = .returned (.int .i64 b) := by rw [h]
theorem max_nat (a b : Nat) : max (a : Int) (b : Int) = ((max a b : Nat) : Int) := by omega
def DepC (v : VT) : Prop := ∀ (c0 c1 c2 c3 c4 : Value) (w : World) (B : Nat), B ≤ w.heap.size → VAt w B v c0 c1 c2 c3 c4 →
  Calls Tryd.prog 18 #[.agg #[c0, c1, c2, c3, c4]] w fun e w' => e = .returned (.int .i64 (depV v)) ∧ Below w.heap.size w w'

set_option maxRecDepth 100000 in
set_option maxHeartbeats 4000000 in
theorem depth_step (N : Nat) (hN : N + 1 ≤ 9000) (H : ∀ u, sizeV u ≤ N → DepC u) : ∀ u, sizeV u ≤ N + 1 → DepC u := by
  intro u hu c0 c1 c2 c3 c4 w B hB hv
  have HS := Lib.hid H
  have hW := within_any u (by omega)
  have hv0 := Lib.hid hv
  have HB0 := Lib.hid hB
  have hkg := Lib.hid (fun (x : VT) (j : Nat) (h : u.kids.get j = some x) => kids_get_size h)
  have hks := Lib.hid (size_kids u)
  have hls := Lib.hid (len_size u.kids)
  obtain ⟨k, n, s, l, m⟩ := u
  have hdk := Lib.hid (dep_kids k n s l m)
  have hd0 : Hid (¬ k = 6 → ¬ k = 7 → depV (.mk k n s l m) = 0) := Lib.hid (fun h6 h7 => by rw [depV, if_neg h6, if_neg h7])
  generalize hU : VT.mk k n s l m = U at *
  have hv' := hv
  rw [← hU] at hv'
  unfold VAt at hv'
  obtain ⟨rfl, rfl, rfl, _, ⟨A, c, rfl, hl, hL⟩, A', c', rfl, hm, hM⟩ := hv'
  have HW := Lib.hid hW
  have HU := Lib.hid hu
  have hb0 : Below w.heap.size w (w.alloc (.cells #[.int .i64 k, .int .i64 n, .string s, .slice A l.len c, .slice A' m.len c'] 25)) := (Below.refl _ _).alloc (Nat.le_refl _) _
  have HB := Lib.hid hb0
  clear H hB hv hW hL hM hu hU hb0
  obtain ⟨n6, h6⟩ : ∃ b, (k != 6) = b := ⟨_, rfl⟩
  obtain ⟨n7, h7⟩ : ∃ b, (k != 7) = b := ⟨_, rfl⟩
  by_cases hk : k = 6 ∨ k = 7
  · have hD := Lib.hid (hdk.out hk)
    have hb : n6 = true → n7 = false := by
      intro e
      rw [e] at h6
      have : ¬ k = 6 := by simpa using h6
      have : k = 7 := by omega
      rw [← h7]; simp [this]
    have HK := Lib.hid hk
    clear hk hd0
    cases n6
    rotate_left
    obtain rfl := hb rfl
    all_goals
      clear hb
      go_enter Tryd.func18, Tryd.ntmps18
      go_wp2_with fail
      refine (HW.out _ _ _ _ _ _ B (Nat.le_trans HB0.out HB.out.size) (VAt.below (HB.out.mono HB0.out) _ _ _ _ _ _ hv0.out)).mono ?_
      rintro e w1 ⟨A1, c1', rfl, hrow, hb1⟩
      have HB1 := Lib.hid (HB.out.trans (hb1.mono HB.out.size))
      have HR := Lib.hid hrow
      clear hrow hb1
      go_wp2_with fail
      go_loopg [3, 17] U.kids.len (fun g mo i wx => ∃ q : Nat, q + g = U.kids.len ∧ i = .int .i64 q ∧ mo = .int .i64 (depTo U.kids q) ∧ Below w.heap.size w wx ∧ Aside (RowV wx B U.kids A1))
      case atStart => exact ⟨0, by omega, rfl, by rw [depTo_zero]; rfl, HB1.out, vaside HR.out⟩
      case round =>
        obtain ⟨q, hq, rfl, rfl, hb, HA⟩ := hrel
        have HBB := Lib.hid hb
        have HRR := Lib.hid HA.out
        have hwr := hb.size
        clear hb HA HR HB1
        cases gk with
        | zero =>
          obtain rfl : q = U.kids.len := by omega
          have hsm := Nat.le_trans (depL_size U.kids) (Nat.le_of_succ_le (Nat.le_trans hks.out HU.out))
          rw [depTo_all]
          have hadd : (1 : Int) + (depL U.kids : Int) = ((depL U.kids + 1 : Nat) : Int) := by omega
          go_wp2_with fail
          go_ret
          exact ⟨ret_int (by rw [hD.out]; omega), HBB.out⟩
        | succ g =>
          have hqn : q < U.kids.len := by omega
          have hq9 : q < 9000 := by have h1 := hks.out; have h2 := hls.out; have h3 := HU.out; omega
          have hqn' : (q : Int) < (U.kids.len : Int) := by omega
          obtain ⟨x, hx⟩ := VL.get_lt hqn
          have hxs := hkg.out x q hx
          have hnx := Lib.hid (depTo_next hx)
          obtain ⟨b, o, d0, d1, d2, d3, d4, rfl, hblt, hF, hV⟩ := HRR.out q x hx
          have hBr := Nat.le_trans HB0.out hwr
          have C := fun (wx : World) (hx : Below wr.heap.size wr wx) => Lib.hid (HS.out x (by have := HU.out; omega) d0 d1 d2 d3 d4 wx B (Nat.le_trans hBr hx.size) (VAt.below (hx.mono hBr) _ _ _ _ _ _ hV))
          obtain ⟨xk, xn, xs, xl, xm⟩ := x
          have hV' := hV
          unfold VAt at hV'
          obtain ⟨rfl, rfl, rfl, _, ⟨A3, c3', rfl, _, _⟩, A4, c4', rfl, _, _⟩ := hV'
          obtain ⟨f0, f1, f2, f3, f4⟩ := hF
          have hnew := Lib.hid (fun o => (Below.refl wr.heap.size wr).alloc (Nat.le_refl _) o)
          have hmx := max_nat (depTo U.kids q) (depV (.mk xk xn xs xl xm))
          clear hV hx hxs
          go_wp2_with fail
          refine (C _ (hnew.out _)).out.mono ?_
          rintro e w2 ⟨rfl, hb2⟩
          have hb3 := (hnew.out _).trans (hb2.mono (Nat.le_of_lt (by simp)))
          have HB3 := Lib.hid (HBB.out.trans (hb3.mono hwr))
          have HR3 := Lib.hid (HRR.out.below hBr hb3)
          clear hb2 hb3 C f0 f1 f2 f3 f4
          go_wp2_with fail
          go_roundg g
          case measure => omega
          case rel => exact ⟨q + 1, by omega, by go_num, by rw [hnx.out], HB3.out, vaside HR3.out⟩
  · have hD := Lib.hid (hd0.out (fun e => hk (Or.inl e)) (fun e => hk (Or.inr e)))
    have e6 : (k != 6) = true := by simp; omega
    have e7 : (k != 7) = true := by simp; omega
    clear hk hd0 h6 h7
    go_enter Tryd.func18, Tryd.ntmps18
    go_wp2_with fail
    go_ret
    exact ⟨ret_int (by rw [hD.out]; rfl), HB.out⟩
theorem depth_all : ∀ N, N ≤ 9000 → ∀ u, sizeV u ≤ N → DepC u
  | 0, _, u, h => by cases u; rw [sizeV] at h; omega
  | N + 1, hN, u, h => depth_step N hN (depth_all N (by omega)) u h
theorem depth_any (u : VT) (h : sizeV u ≤ 9000) : DepC u := depth_all 9000 (Nat.le_refl _) u h
end Go.Proofs.YtcdcfhplkimecaaDoor
