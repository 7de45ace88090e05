/- The walks of value.named and value.within. -/
import Derived.Test.YtcdcfhplkimecaaDoorVKids
import Derived.Deep.LoopGhost
import Derived.Deep.RegionHeld3
namespace Go.Proofs.YtcdcfhplkimecaaDoor
open Go.RowKit

set_option maxRecDepth 100000 in
set_option maxHeartbeats 4000000 in
theorem named_any (fn : Nat) (p : List UInt8 → Bool) (hp : TestC fn p) (m : VM) (A : Option Addr) (c : Nat) (w : World) (B : Nat) (hB : B ≤ w.heap.size) (hm : m.len ≤ 9223372036854775807) (hM : MAt w B m A 0) (hz : sizeM m ≤ 9000) (hw : Laid5 w) :
    Calls Tryd.prog 59 #[.slice A m.len c, .func (.func fn) #[] #[]] w fun e w' => e = .returned (.bool (namesB p m)) ∧ Below w.heap.size w w' := by
  obtain ⟨he, hP⟩ := hp
  have HP := Lib.hid hP
  have HM := Lib.hid hM
  have HB0 := Lib.hid hB
  have HZ := Lib.hid hz
  have HW := Lib.hid hw
  clear hM hB hP hz hw
  go_enter Tryd.func59, Tryd.ntmps59
  go_wp2_with fail
  go_loopg [9] m.len (fun g i wx => ∃ q : Nat, q + g = m.len ∧ i = .int .i64 q ∧ Below w.heap.size w wx ∧ Aside (namesTo p m q = true))
  case atStart => exact ⟨0, by omega, rfl, Below.refl _ _, vaside (namesTo_zero _ _)⟩
  case round =>
    obtain ⟨q, hq, rfl, hb, HA⟩ := hrel
    have HBB := Lib.hid hb
    clear hb
    cases gk with
    | zero =>
      obtain rfl : q = m.len := by omega
      have hG : Hid (namesB p m = true) := Lib.hid (by rw [← namesTo_all]; exact HA)
      clear HA
      go_wp2_with fail
      go_ret
      exact ⟨ret_bool hG.out.symm, HBB.out⟩
    | succ g =>
      have hqn : q < m.len := by omega
      have hqn' : (q : Int) < (m.len : Int) := by omega
      obtain ⟨⟨nm, v⟩, hv⟩ := VM.get_lt hqn
      have hns := Nat.le_trans (name_size hv).1 HZ.out
      obtain ⟨b, o, d0, d1, d2, d3, d4, rfl, hblt, hnm, _, hF, hV⟩ := MAt.at (MAt.below (HBB.out.mono HB0.out) _ _ _ HM.out) hv
      rw [Nat.zero_add] at hF hnm
      have hnx := Lib.hid (namesTo_next p hv)
      have hno := Lib.hid (names_no p hv)
      have C := fun (wx : World) (hx : Below wr.heap.size wr wx) => Lib.hid (HP.out nm wx hns ((HW.out.below HBB.out).below hx))
      obtain ⟨vk, vn, vs, vl, vm⟩ := v
      unfold VAt at hV
      obtain ⟨rfl, rfl, rfl, _, ⟨A3, c3', rfl, _, _⟩, A4, c4', rfl, _, _⟩ := hV
      obtain ⟨f0, f1, f2, f3, f4⟩ := hF
      have hnew := fun o => (Below.refl wr.heap.size wr).alloc (Nat.le_refl _) o
      have HN := Lib.hid hnew
      clear hnew hv
      cases hpn : p nm.data.toList with
      | true =>
        rw [hpn] at C
        have hN : Hid (namesTo p m (q + 1) = true) := Lib.hid (by rw [hnx.out, HA, hpn]; rfl)
        clear HA hpn hno hnx
        go_wp2_with fail
        refine (C _ (HN.out _)).out.mono ?_
        rintro e w1 ⟨rfl, hb1⟩
        have HB1 := Lib.hid (HBB.out.trans (((HN.out _).trans (hb1.mono (by simp))).mono HBB.out.size))
        clear hb1 C f0 f1 f2 f3 f4 hnm
        go_wp2_with fail
        go_roundg g
        case measure => omega
        case rel => exact ⟨q + 1, by omega, by go_num, HB1.out, vaside hN.out⟩
      | false =>
        rw [hpn] at C
        have hN : Hid (namesB p m = false) := Lib.hid (hno.out hpn)
        clear HA hpn hno hnx
        go_wp2_with fail
        refine (C _ (HN.out _)).out.mono ?_
        rintro e w1 ⟨rfl, hb1⟩
        have HB1 := Lib.hid (HBB.out.trans (((HN.out _).trans (hb1.mono (by simp))).mono HBB.out.size))
        clear hb1 C f0 f1 f2 f3 f4 hnm
        go_wp2_with fail
        go_ret
        exact ⟨ret_bool hN.out.symm, HB1.out⟩
end Go.Proofs.YtcdcfhplkimecaaDoor
