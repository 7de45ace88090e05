/- The landed selections, whole. -/
import Derived.Test.YtpkmbhnikilihaaGreatDoorQj30
namespace Go.Proofs.YtpkmbhnikilihaaGreatDoor
open Go.RowKit

set_option maxRecDepth 100000 in
set_option maxHeartbeats 4000000 in
theorem selections_step (f d : Nat) (ts : List Tok) (r : Nat) (w : World) (HC : ∀ tq wx, GoodD tq → tq.length < ts.length → d + 1 ≤ 16 → Rd wx r tq (d + 1) → KRd r wx → Calls Tryz.prog 172 #[.pointer (some ⟨r, 0, none⟩)] wx (Post r (d + 1) wx (layS encS) (selR f (d + 1) tq)))
    (hG : GoodD ts) (hd : d ≤ 16) (hR : Rd w r ts d) (hK : KRd r w) : Calls Tryz.prog 96 #[.pointer (some ⟨r, 0, none⟩)] w (Post r d w (layR encSL) (selsR (f + 1) d ts)) := by
  suffices H : ∀ Q : Ending → World → Prop, (∀ e w', Post r d w (layR encSL) (selsR (f + 1) d ts) e w' → Q e w') → Calls Tryz.prog 96 #[.pointer (some ⟨r, 0, none⟩)] w Q from H _ (fun _ _ h => h)
  intro Q hQ
  have hmf : ∀ (fn : Fn) (first cap : Array Value) (w : World), (Instr.makeFunc fn first cap).run Tryz.prog w = .ok (.func fn first cap) w := fun _ _ _ _ => rfl
  have HQ := Lib.hid hQ
  have HCC := Lib.hid HC
  have B0 := Lib.hid (And.intro hR (And.intro hK hG))
  clear hQ hR hK hG HC
  go_enter Tryz.func96, Tryz.ntmps96
  go_wp2_with fail
  refine (enter_any r ts d omB _ (by omega) B0.out.1).mono ?_
  intro e w1 h
  cases hb : atB 1 omB ts with
  | false =>
    rw [hb] at h
    simp only [Bool.false_eq_true, if_false] at h
    obtain ⟨rfl, m⟩ := h
    exact ⟨rfl, HQ.out _ _ (post_err (by rw [selsR, hb]; rfl) m)⟩
  | true =>
    rw [hb] at h
    simp only [if_true] at h
    by_cases h16 : d = 16
    · rw [if_pos h16] at h
      obtain ⟨rfl, m⟩ := h
      exact ⟨rfl, HQ.out _ _ (post_err (by rw [selsR, hb, if_pos rfl, if_pos h16]) m)⟩
    · rw [if_neg h16] at h
      obtain ⟨rfl, rr, mm⟩ := h
      have hl := (at_sfx hb).2
      have R1 := Lib.hid (And.intro rr mm)
      have G1 := Lib.hid (B0.out.2.2.sub (at_sfx hb).1)
      have E1 := Lib.hid (show selsR (f + 1) d ts = serR (selR f (d + 1)) addS cmB (ts.tail.length + 1) .nil ts.tail by rw [selsR, hb, if_pos rfl, if_neg h16])
      have D1 := Lib.hid (B0.out.2.1.moved mm)
      clear rr mm hb
      go_wp2_with fail
      refine (serS_any (selR f (d + 1)) (fun _ _ _ h => (sels_all f).2 _ _ _ _ h) r (d + 1) ts.tail w1 (fun tq wx g l hx hk _ => HCC.out tq wx g (by omega) (by omega) hx hk) G1.out R1.out.1 D1.out trivial).mono ?_
      intro e w2 h
      rw [← E1.out] at h
      cases hv : selsR (f + 1) d ts with
      | error x =>
        rw [hv] at h
        obtain ⟨rfl, m⟩ := of_err h
        exact ⟨rfl, HQ.out _ _ (post_err hv (R1.out.2.trans m))⟩
      | ok p =>
        obtain ⟨l, ts2⟩ := p
        rw [hv] at h
        obtain ⟨⟨v, rfl, hly⟩, r2, m2⟩ := of_ok h
        obtain ⟨A, c, rfl, hl2⟩ := row_open hly
        have F := Lib.hid (And.intro hl2 (And.intro r2 m2))
        have HV := Lib.hid hv
        clear h hv hly hl2 r2 m2
        go_wp2_with fail
        refine (leave_any r ts2 d _ (by omega) F.out.2.1).mono ?_
        rintro e w3 ⟨rfl, r3, m3⟩
        have hr := B0.out.1.lt
        have hs1 := R1.out.2.size
        have M3 := Lib.hid ((R1.out.2.trans F.out.2.2).trans m3)
        have T3 := Lib.hid (show TP w3 (Fresh w w3) (.row (encSL l)) (.slice A (encSL l).len c) from TP.keep (fun k hk => ⟨⟨Nat.le_trans hs1 hk.1, Nat.lt_of_lt_of_le hk.2 m3.size⟩, m3.block k hk.2 (fun e => by have := hk.1; injection e; omega)⟩) _ _ F.out.1)
        have R3 := Lib.hid r3
        clear r3 m3
        go_wp2_with fail
        exact HQ.out _ _ (post_ok HV.out T3.out R3.out M3.out)
theorem sel_all : ∀ f : Nat, (∀ (d : Nat) (ts : List Tok) (r : Nat) (w : World), 2 * ts.length + 1 ≤ f → GoodD ts → d ≤ 16 → Rd w r ts d → KRd r w → Calls Tryz.prog 96 #[.pointer (some ⟨r, 0, none⟩)] w (Post r d w (layR encSL) (selsR f d ts))) ∧
    (∀ (d : Nat) (ts : List Tok) (r : Nat) (w : World), 2 * ts.length + 2 ≤ f → GoodD ts → d ≤ 16 → Rd w r ts d → KRd r w → Calls Tryz.prog 172 #[.pointer (some ⟨r, 0, none⟩)] w (Post r d w (layS encS) (selR f d ts))) := by
  intro f
  induction f with
  | zero => exact ⟨fun _ _ _ _ h => by omega, fun _ _ _ _ h => by omega⟩
  | succ f ih =>
    obtain ⟨i1, i2⟩ := ih
    refine ⟨fun d ts r w h hG hd hR hK => selections_step f d ts r w (fun tq wx g l hd hx hk => i2 (d + 1) tq r wx (by omega) g hd hx hk) hG hd hR hK, fun d ts r w h hG hd hR hK => ?_⟩
    rw [selR]
    exact selection_one (selsR f d) (fun _ _ _ h => (sels_all f).1 _ _ _ _ h) d ts r w (fun tq wx g l hx hk => i1 d tq r wx (by omega) g hd hx hk) hG hd hR hK
theorem sels_any (d : Nat) (ts : List Tok) (r : Nat) (w : World) (hG : GoodD ts) (hd : d ≤ 16) (hR : Rd w r ts d) (hK : KRd r w) : Calls Tryz.prog 96 #[.pointer (some ⟨r, 0, none⟩)] w (Post r d w (layR encSL) (selsD d ts)) := by
  have := (sel_all (2 * ts.length + 1)).1 d ts r w (Nat.le_refl _) hG hd hR hK
  rwa [show selsR (2 * ts.length + 1) d ts = selsD d ts from ((sels_fuel _).1 _ _ _ (Nat.lt_succ_self _) (by omega)).symm] at this
end Go.Proofs.YtpkmbhnikilihaaGreatDoor
