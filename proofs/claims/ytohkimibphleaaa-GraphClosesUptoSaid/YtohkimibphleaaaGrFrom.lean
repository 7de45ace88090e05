/- graph's search.from. (gen_grfrom.py wrote it.) -/
import Derived.Test.YtohkimibphleaaaGrRun
namespace Go.Proofs.Ytohkimibphleaaa
open Go.RowKit

/-- What from makes of the search. -/
def FromR (ws : List (List Nat)) (tn : Int) (a : Nat) (s s' : SS) : Prop := if reachB s tn a = true then s' = s else ∃ k, s' = iterS ws tn k (beginS ws tn a s)
theorem iter_next {ws : List (List Nat)} {tn : Int} {s0 s : SS} {k : Nat} (h : s = iterS ws tn k s0) : stepS ws tn s = iterS ws tn (k + 1) s0 := by rw [h]; rfl
set_option maxRecDepth 100000 in
set_option maxHeartbeats 8000000 in
theorem from_any (L r M gb ge : Nat) (Aw : Option Addr) (cw : Nat) (ws : List (List Nat)) (tn : Int) (Vy : Value) (s0 : SS) (W : World) (h : SrchG L r M gb ge Aw cw ws tn Vy s0 W) (hstk : s0.stk = []) (hok : OkR ws tn s0) (a0 : Nat) (ha : a0 < ws.length) (hws : ∀ l, l ∈ ws → l.length ≤ 1099511627776 ∧ ∀ x, x ∈ l → x < ws.length) (hlen : ws.length ≤ 1099511627776) :
    Calls Try.prog 21 #[.pointer (some ⟨r, 0, none⟩), .int .i64 a0] W fun e W' => (∃ v, e = .returned v) ∧ ∃ Vy' s', SrchG L r M gb ge Aw cw ws tn Vy' s' W' ∧ MoV gb ge r W Vy W' Vy' ∧ s'.stk = [] ∧ OkR ws tn s' ∧ FromR ws tn a0 s0 s' := by
  have H0 := Lib.hid h
  have HK0 := Lib.hid hstk
  have HO0 := Lib.hid hok
  have HWS := Lib.hid hws
  have RE0 := Lib.hid (reached_any L r M gb ge Aw cw ws tn Vy s0 W h a0 ha)
  clear h hstk hok hws
  obtain ⟨bb, hbb⟩ : ∃ b, reachB s0 tn a0 = b := ⟨_, rfl⟩
  rw [hbb] at RE0
  have HBB0 := Lib.hid hbb
  clear hbb
  go_enter Try.func21, Try.ntmps21
  cases bb with
  | true =>
    go_wp2_with fail
    go_step3
    go_wp2_with fail
    refine RE0.out.mono ?_
    rintro e w1 ⟨rfl, hb⟩
    have HB := Lib.hid hb
    clear hb RE0
    go_wp2_with fail
    rw [Exit.noGoto_ret]
    refine bodyPost_ret (results_none rfl _ _ _) rfl ?_
    refine ⟨⟨_, rfl⟩, Vy, s0, H0.out.next HB.out, .of_below HB.out, HK0.out, HO0.out, ?_⟩
    unfold FromR
    rw [if_pos HBB0.out]
  | false =>
    go_wp2_with fail
    go_step3
    go_wp2_with fail
    refine RE0.out.mono ?_
    rintro e w1 ⟨rfl, hb⟩
    have S1 := Lib.hid (H0.out.next hb)
    have M1 : Hid (MoV gb ge r W Vy w1 Vy) := Lib.hid (.of_below hb)
    have BE := Lib.hid (begin_any L r M gb ge Aw cw ws tn Vy s0 w1 S1.out a0 ha (by have := HO0.out.sz; omega))
    clear hb RE0
    go_wp2_with fail
    refine BE.out.mono ?_
    rintro e w2 ⟨⟨v, rfl⟩, Vy2, hS, hM⟩
    have S2 := Lib.hid hS
    have M2 := Lib.hid (M1.out.trans hM)
    have OK2 := Lib.hid (HO0.out.begin HWS.out ha HBB0.out).1
    clear hS hM BE S1 M1
    go_wp2_with fail
    go_step3
    go_wp2_with fail
    go_loopg [] (muS (beginS ws tn a0 s0) tn) (fun g wx => Asd (∃ V s' k, SrchG L r M gb ge Aw cw ws tn V s' wx ∧ MoV gb ge r W Vy wx V ∧ OkR ws tn s' ∧ s' = iterS ws tn k (beginS ws tn a0 s0) ∧ muS s' tn ≤ g))
    case atStart => exact Asd.intro ⟨Vy2, _, 0, S2.out, M2.out, OK2.out, rfl, Nat.le_refl _⟩
    case round =>
      obtain ⟨V, s, k, hS, hM, hO, hI, hmu⟩ := hrel.out
      have S3 := Lib.hid hS
      have M3 := Lib.hid hM
      have HOK := Lib.hid hO
      have HIT := Lib.hid hI
      clear hrel hS hM hO hI S2 M2 OK2 H0 HO0
      rcases hst : s.stk with _ | ⟨⟨a, l⟩, rest⟩
      · obtain ⟨Az, cz, rfl⟩ := S3.out.shape
        obtain ⟨⟨x0, x1, x2, x3, x4, x5, x6⟩, _⟩ := gcells7 S3.out.box
        rw [hst] at x5
        have HST := Lib.hid hst
        clear hst
        go_wp2_with fail
        rw [Exit.noGoto_normal]
        go_end0
        refine ⟨⟨_, rfl⟩, _, s, S3.out, M3.out, HST.out, HOK.out, ?_⟩
        unfold FromR
        rw [if_neg (by rw [HBB0.out]; simp)]
        exact ⟨k, HIT.out⟩
      · have HST := Lib.hid hst
        obtain ⟨g, cp, A, c, rfl, hcp, hgr, hgl, xtop, xleft, _, hlc, hIN⟩ := S3.out.top hst
        obtain ⟨⟨x0, x1, x2, x3, x4, x5, x6⟩, _⟩ := gcells7 S3.out.box
        have hil : ((rest.length : Int) + 1 - 1) = (rest.length : Int) := by omega
        have hil2 : (rest.length : Int) < (rest.length : Int) + 1 := by omega
        have hns := (HOK.out.st a l (by rw [hst]; exact List.mem_cons_self ..))
        have HNS := Lib.hid hns
        obtain ⟨hLr, hgbr, hger, hgbe⟩ := S3.out.lts
        have HLC := Lib.hid hlc
        have hsz := HOK.out.sz
        rw [hst, List.length_cons] at hsz
        have hll := HNS.out.2.1
        have hwr : IntKind.i64.wrap (rest.length : Int) = (rest.length : Int) := by rw [IntKind.wrap_i64]; omega
        clear hst hIN hns
        go_upto_region 3 with fail
        refine wp_region_held_drew (S := fun w' => w'.cell? ⟨r, 5, none⟩ = some (.slice (some ⟨g, 0, none⟩) (rest.length + 1) cp)) (by kernel_rfl) x5 (fun hHeld => ?_)
        refine wpAnyH_take (i := 0) (oi := _) (v := ?_) rfl (by kernel_rfl) (by kernel_rfl) (by kernel_rfl) (fun _ _ _ h => h) (Or.inl ⟨by rfl, ?_⟩) (by first | assumption | trivial) ?_
        rotate_left
        · (intro w hSw; (try dsimp only at hSw); go_simp; try with_reducible rfl)
        try simp only [Act.put, List.getElem_toArray, List.getElem_cons_zero, List.setIfInBounds_toArray, List.set_cons_zero, List.set_cons_succ]
        refine wpAnyH_take (i := 1) (oi := _) (v := ?_) rfl (by kernel_rfl) (by kernel_rfl) (by kernel_rfl) (fun _ _ _ h => h) (Or.inl ⟨by rfl, ?_⟩) (by first | assumption | trivial) ?_
        rotate_left
        · (intro w hSw; (try dsimp only at hSw); go_simp; try with_reducible rfl)
        try simp only [Act.put, List.getElem_toArray, List.getElem_cons_zero, List.getElem_cons_succ, List.setIfInBounds_toArray, List.set_cons_zero, List.set_cons_succ]
        refine wpAnyH_take (i := 2) (oi := _) (v := ?_) rfl (by kernel_rfl) (by kernel_rfl) (by kernel_rfl) (fun _ _ _ h => h) (Or.inl ⟨by rfl, ?_⟩) (by first | assumption | trivial) ?_
        rotate_left
        · (intro w hSw; (try dsimp only at hSw); go_simp; try with_reducible rfl)
        try simp only [Act.put, List.getElem_toArray, List.getElem_cons_zero, List.getElem_cons_succ, List.setIfInBounds_toArray, List.set_cons_zero, List.set_cons_succ]
        refine wpAnyH_take (i := 3) (oi := _) (v := ?_) rfl (by kernel_rfl) (by kernel_rfl) (by kernel_rfl) (fun _ _ _ h => h) (Or.inl ⟨by rfl, ?_⟩) (by first | assumption | trivial) ?_
        rotate_left
        · (intro w hSw; (try dsimp only at hSw); go_simp; try with_reducible rfl)
        try simp only [Act.put, List.getElem_toArray, List.getElem_cons_zero, List.getElem_cons_succ, List.setIfInBounds_toArray, List.set_cons_zero, List.set_cons_succ]
        refine wpAnyH_take (i := 4) (oi := _) (v := ?_) rfl (by kernel_rfl) (by kernel_rfl) (by kernel_rfl) (fun _ _ _ h => h) (Or.inl ⟨by rfl, ?_⟩) (by first | assumption | trivial) ?_
        rotate_left
        · (intro w hSw; (try dsimp only at hSw); go_simp; try with_reducible rfl)
        try simp only [Act.put, List.getElem_toArray, List.getElem_cons_zero, List.getElem_cons_succ, List.setIfInBounds_toArray, List.set_cons_zero, List.set_cons_succ]
        refine wpAnyH_take (i := 5) (oi := _) (v := ?_) rfl (by kernel_rfl) (by kernel_rfl) (by kernel_rfl) (fun _ _ _ h => h) (Or.inl ⟨by rfl, ?_⟩) (by first | assumption | trivial) ?_
        rotate_left
        · (intro w hSw; (try dsimp only at hSw); go_simp; try with_reducible rfl)
        try simp only [Act.put, List.getElem_toArray, List.getElem_cons_zero, List.getElem_cons_succ, List.setIfInBounds_toArray, List.set_cons_zero, List.set_cons_succ]
        refine wpAnyH_take (i := 6) (oi := _) (v := ?_) rfl (by kernel_rfl) (by kernel_rfl) (by kernel_rfl) (fun _ _ _ h => h) (Or.inl ⟨by rfl, ?_⟩) (by first | assumption | trivial) ?_
        rotate_left
        · (intro w hSw; (try dsimp only at hSw); go_simp; try with_reducible rfl)
        try simp only [Act.put, List.getElem_toArray, List.getElem_cons_zero, List.getElem_cons_succ, List.setIfInBounds_toArray, List.set_cons_zero, List.set_cons_succ]
        refine wpAnyH_take (i := 7) (oi := _) (v := ?_) rfl (by kernel_rfl) (by kernel_rfl) (by kernel_rfl) (fun _ _ _ h => h) (Or.inl ⟨by rfl, ?_⟩) (by first | assumption | trivial) ?_
        rotate_left
        · (intro w hSw; (try dsimp only at hSw); go_simp; try with_reducible rfl)
        try simp only [Act.put, List.getElem_toArray, List.getElem_cons_zero, List.getElem_cons_succ, List.setIfInBounds_toArray, List.set_cons_zero, List.set_cons_succ]
        refine wpAnyH_take (i := 8) (oi := _) (v := ?_) rfl (by kernel_rfl) (by kernel_rfl) (by kernel_rfl) (fun _ _ _ h => h) (Or.inl ⟨by rfl, ?_⟩) (by first | assumption | trivial) ?_
        rotate_left
        · (intro w hSw; (try dsimp only at hSw); go_simp; try with_reducible rfl)
        try simp only [Act.put, List.getElem_toArray, List.getElem_cons_zero, List.getElem_cons_succ, List.setIfInBounds_toArray, List.set_cons_zero, List.set_cons_succ]
        refine wpAnyH_take (i := 9) (oi := _) (v := ?_) rfl (by kernel_rfl) (by kernel_rfl) (by kernel_rfl) (fun _ _ _ h => h) (Or.inl ⟨by rfl, ?_⟩) (by first | assumption | trivial) ?_
        rotate_left
        · (intro w hSw; (try dsimp only at hSw); go_simp; try with_reducible rfl)
        try simp only [Act.put, List.getElem_toArray, List.getElem_cons_zero, List.getElem_cons_succ, List.setIfInBounds_toArray, List.set_cons_zero, List.set_cons_succ]
        refine wpAnyH_take (i := 10) (oi := _) (v := ?_) rfl (by kernel_rfl) (by kernel_rfl) (by kernel_rfl) (fun _ _ _ h => h) (Or.inl ⟨by rfl, ?_⟩) (by first | assumption | trivial) ?_
        rotate_left
        · (intro w hSw; (try dsimp only at hSw); go_simp; try with_reducible rfl)
        try simp only [Act.put, List.getElem_toArray, List.getElem_cons_zero, List.getElem_cons_succ, List.setIfInBounds_toArray, List.set_cons_zero, List.set_cons_succ]
        refine wpAnyH_take (i := 11) (oi := _) (v := ?_) rfl (by kernel_rfl) (by kernel_rfl) (by kernel_rfl) (fun _ _ _ h => h) (Or.inl ⟨by rfl, ?_⟩) (by first | assumption | trivial) ?_
        rotate_left
        · (intro w hSw; (try dsimp only at hSw); go_simp; try with_reducible rfl)
        try simp only [Act.put, List.getElem_toArray, List.getElem_cons_zero, List.getElem_cons_succ, List.setIfInBounds_toArray, List.set_cons_zero, List.set_cons_succ]
        refine wpAnyH_done (by kernel_rfl) ?_ _
        obtain ⟨w3, hw3⟩ : ∃ X, wr.drew = X := ⟨_, rfl⟩
        have hd3 : Below wr.heap.size wr w3 := by rw [← hw3]; exact gdrew wr
        have S3 := Lib.hid (S3.out.next hd3)
        have M3 := Lib.hid (M3.out.trans (.of_below hd3))
        have xl3 := (hd3.cell (p := ⟨g, rest.length * 2 + 1, none⟩) hgl).trans xleft
        rw [hw3]
        have XL3 := Lib.hid xl3
        clear hw3 hd3 x0 x1 x2 x3 x4 x5 x6 xtop xleft
        go_wp2_with fail
        go_loopg [35] l.length (fun g2 t wx => ∃ q : Nat, q + g2 = l.length ∧ t = .int .i64 q ∧ Asd (SrchG L r M gb ge Aw cw ws tn (.slice (some ⟨g, 0, none⟩) (rest.length + 1) cp) { s with ring := ringQ s tn l q } wx ∧ MoV gb ge r W Vy wx (.slice (some ⟨g, 0, none⟩) (rest.length + 1) cp) ∧ wx.cell? ⟨g, rest.length * 2 + 1, none⟩ = some (.slice A l.length c) ∧ ∀ (j x : Nat), j < q → l[j]? = some x → reachB s tn x = true))
        case atStart => exact ⟨0, by omega, rfl, Asd.intro ⟨S3.out, M3.out, XL3.out, fun j x hj => absurd hj (Nat.not_lt_zero _)⟩⟩
        case round =>
          obtain ⟨q, hq, rfl, HX⟩ := hrel
          obtain ⟨hS, hM, hcl, hR⟩ := HX.out
          have S4 := Lib.hid hS
          have M4 := Lib.hid hM
          have HRE := Lib.hid hR
          clear HX hS hM hR S3 M3 xl3 XL3
          obtain ⟨g', cp', A4, c4, e4, _, _, hgl4, xtop, xleft, xfz, hlc4, hIN4⟩ := S4.out.top (a := a) (l := l) (rest := rest) HST.out
          simp only [Value.slice.injEq, Option.some.injEq, Addr.mk.injEq, and_true, true_and] at e4
          obtain ⟨rfl, rfl⟩ := e4
          rw [hcl] at xleft
          have e5 := Option.some.inj xleft
          simp only [Value.slice.injEq, true_and] at e5
          obtain ⟨rfl, rfl⟩ := e5
          clear xleft
          have xleft := hcl
          have XLH := Lib.hid hcl
          have HI4 := Lib.hid hIN4
          have HL4 := Lib.hid hlc4
          clear hIN4 hlc4 hcl
          cases gk with
          | zero =>
            obtain rfl : q = l.length := by omega
            have hal := HNS.out.1
            have hal' : (a : Int) < (ws.length : Int) := by omega
            go_upto_region 12 with fail
            have S5 := Lib.hid S4.out
            have M5 := Lib.hid M4.out
            have XT := Lib.hid xtop
            clear S4 M4 xleft xfz xtop
            refine wp_region_held_drew (S := fun w' => w'.cell? ⟨r, 2, none⟩ = some (.int .i64 tn) ∧ w'.cell? ⟨r, 4, none⟩ = some (.slice (some ⟨ge, 0, none⟩) ws.length ws.length) ∧ w'.cell? ⟨g, rest.length * 2, none⟩ = some (.int .i64 a)) (by kernel_rfl) (by have h := S5.out.next (gdrew wr); exact ⟨(gcells7 h.box).1.2.2.1, (gcells7 h.box).1.2.2.2.2.1, ((gdrew wr).cell (p := ⟨g, rest.length * 2, none⟩) hgl4).trans XT.out⟩) (fun hHeld => ?_)
            have S5 := Lib.hid (S5.out.next (gdrew wr))
            have M5 := Lib.hid (M5.out.trans (.of_below (gdrew wr)))
            obtain ⟨w6, hw6⟩ : ∃ X, wr.drew = X := ⟨_, rfl⟩
            rw [hw6] at S5 M5 hHeld ⊢
            have xtop := hHeld.2.2
            clear hw6
            obtain ⟨⟨x0, x1, x2, x3, x4, x5, x6⟩, u0, u1, u2, u3, u4, u5, u6⟩ := gcells7 S5.out.box
            refine wpAnyH_take (i := 0) (oi := _) (v := ?_) rfl (by kernel_rfl) (by kernel_rfl) (by kernel_rfl) (fun _ _ _ h => h) (Or.inl ⟨by rfl, ?_⟩) (by first | assumption | trivial) ?_
            rotate_left
            · (intro w hSw; (try dsimp only at hSw); go_simp; try with_reducible rfl)
            try simp only [Act.put, List.getElem_toArray, List.getElem_cons_zero, List.setIfInBounds_toArray, List.set_cons_zero, List.set_cons_succ]
            refine wpAnyH_take (i := 1) (oi := _) (v := ?_) rfl (by kernel_rfl) (by kernel_rfl) (by kernel_rfl) (fun _ _ _ h => h) (Or.inl ⟨by rfl, ?_⟩) (by first | assumption | trivial) ?_
            rotate_left
            · (intro w hSw; (try dsimp only at hSw); go_simp; try with_reducible rfl)
            try simp only [Act.put, List.getElem_toArray, List.getElem_cons_zero, List.getElem_cons_succ, List.setIfInBounds_toArray, List.set_cons_zero, List.set_cons_succ]
            refine wpAnyH_take (i := 2) (oi := _) (v := ?_) rfl (by kernel_rfl) (by kernel_rfl) (by kernel_rfl) (fun _ _ _ h => h) (Or.inl ⟨by rfl, ?_⟩) (by first | assumption | trivial) ?_
            rotate_left
            · (intro w hSw; (try dsimp only at hSw); go_simp; try with_reducible rfl)
            try simp only [Act.put, List.getElem_toArray, List.getElem_cons_zero, List.getElem_cons_succ, List.setIfInBounds_toArray, List.set_cons_zero, List.set_cons_succ]
            refine wpAnyH_take (i := 3) (oi := _) (v := ?_) rfl (by kernel_rfl) (by kernel_rfl) (by kernel_rfl) (fun _ _ _ h => h) (Or.inl ⟨by rfl, ?_⟩) (by first | assumption | trivial) ?_
            rotate_left
            · (intro w hSw; (try dsimp only at hSw); go_simp; try with_reducible rfl)
            try simp only [Act.put, List.getElem_toArray, List.getElem_cons_zero, List.getElem_cons_succ, List.setIfInBounds_toArray, List.set_cons_zero, List.set_cons_succ]
            refine wpAnyH_take (i := 4) (oi := _) (v := ?_) rfl (by kernel_rfl) (by kernel_rfl) (by kernel_rfl) (fun _ _ _ h => h) (Or.inl ⟨by rfl, ?_⟩) (by first | assumption | trivial) ?_
            rotate_left
            · (intro w hSw; (try dsimp only at hSw); go_simp; try with_reducible rfl)
            try simp only [Act.put, List.getElem_toArray, List.getElem_cons_zero, List.getElem_cons_succ, List.setIfInBounds_toArray, List.set_cons_zero, List.set_cons_succ]
            refine wpAnyH_take (i := 5) (oi := _) (v := ?_) rfl (by kernel_rfl) (by kernel_rfl) (by kernel_rfl) (fun _ _ _ h => h) (Or.inl ⟨by rfl, ?_⟩) (by first | assumption | trivial) ?_
            rotate_left
            · (intro w hSw; (try dsimp only at hSw); go_simp; try with_reducible rfl)
            try simp only [Act.put, List.getElem_toArray, List.getElem_cons_zero, List.getElem_cons_succ, List.setIfInBounds_toArray, List.set_cons_zero, List.set_cons_succ]
            refine wpAnyH_take (i := 6) (oi := _) (v := ?_) rfl (by kernel_rfl) (by kernel_rfl) (by kernel_rfl) (fun _ _ _ h => h) (Or.inl ⟨by rfl, ?_⟩) (by first | assumption | trivial) ?_
            rotate_left
            · (intro w hSw; (try dsimp only at hSw); go_simp; try with_reducible rfl)
            try simp only [Act.put, List.getElem_toArray, List.getElem_cons_zero, List.getElem_cons_succ, List.setIfInBounds_toArray, List.set_cons_zero, List.set_cons_succ]
            refine wpAnyH_take (i := 7) (oi := _) (v := ?_) rfl (by kernel_rfl) (by kernel_rfl) (by kernel_rfl) (fun _ _ _ h => h) (Or.inl ⟨by rfl, ?_⟩) (by first | assumption | trivial) ?_
            rotate_left
            · (intro w hSw; (try dsimp only at hSw); go_simp; try with_reducible rfl)
            try simp only [Act.put, List.getElem_toArray, List.getElem_cons_zero, List.getElem_cons_succ, List.setIfInBounds_toArray, List.set_cons_zero, List.set_cons_succ]
            refine wpAnyH_take (i := 8) (oi := _) (v := ?_) rfl (by kernel_rfl) (by kernel_rfl) (by kernel_rfl) (fun _ _ _ h => h) (Or.inl ⟨by rfl, ?_⟩) (by first | assumption | trivial) ?_
            rotate_left
            · (intro w hSw; (try dsimp only at hSw); go_simp; try with_reducible rfl)
            try simp only [Act.put, List.getElem_toArray, List.getElem_cons_zero, List.getElem_cons_succ, List.setIfInBounds_toArray, List.set_cons_zero, List.set_cons_succ]
            refine wpAnyH_take (i := 9) (oi := _) (v := ?_) rfl (by kernel_rfl) (by kernel_rfl) (by kernel_rfl) (fun _ _ _ h => h) (Or.inl ⟨by rfl, ?_⟩) (by first | assumption | trivial) ?_
            rotate_left
            · (intro w hSw; (try dsimp only at hSw); go_simp; try with_reducible rfl)
            try simp only [Act.put, List.getElem_toArray, List.getElem_cons_zero, List.getElem_cons_succ, List.setIfInBounds_toArray, List.set_cons_zero, List.set_cons_succ]
            refine wpAnyH_take (i := 10) (oi := _) (v := ?_) rfl (by kernel_rfl) (by kernel_rfl) (by kernel_rfl) (fun _ _ _ h => h) (Or.inl ⟨by rfl, ?_⟩) (by first | assumption | trivial) ?_
            rotate_left
            · (intro w hSw; (try dsimp only at hSw); go_simp; try with_reducible rfl)
            try simp only [Act.put, List.getElem_toArray, List.getElem_cons_zero, List.getElem_cons_succ, List.setIfInBounds_toArray, List.set_cons_zero, List.set_cons_succ]
            refine wpAnyH_take (i := 11) (oi := _) (v := ?_) rfl (by kernel_rfl) (by kernel_rfl) (by kernel_rfl) (fun _ _ _ h => h) (Or.inl ⟨by rfl, ?_⟩) (by first | assumption | trivial) ?_
            rotate_left
            · (intro w hSw; (try dsimp only at hSw); go_simp; try with_reducible rfl)
            try simp only [Act.put, List.getElem_toArray, List.getElem_cons_zero, List.getElem_cons_succ, List.setIfInBounds_toArray, List.set_cons_zero, List.set_cons_succ]
            refine wpAnyH_take (i := 12) (oi := _) (v := ?_) rfl (by kernel_rfl) (by kernel_rfl) (by kernel_rfl) (fun _ _ _ h => h) (Or.inl ⟨by rfl, ?_⟩) (by first | assumption | trivial) ?_
            rotate_left
            · (intro w hSw; (try dsimp only at hSw); go_simp; try with_reducible rfl)
            try simp only [Act.put, List.getElem_toArray, List.getElem_cons_zero, List.getElem_cons_succ, List.setIfInBounds_toArray, List.set_cons_zero, List.set_cons_succ]
            refine wpAnyH_ready (rs := [13]) (by kernel_rfl) (by simp) ?_
            refine AllReadyH.cons (o := _) rfl (fun K hK => ?_) AllReadyH.nil
            obtain ⟨xc12, xf12⟩ := S5.out.en.cell hal
            go_simp
            have S7 := Lib.hid (S5.out.setEnd a)
            have M7 := Lib.hid (M5.out.trans (MoV.set (i := a) (v := .int .i64 tn) (.inr (.inl rfl))))
            have ztop := (World.cell?_of_block (a := ⟨g, rest.length * 2, none⟩) (Below.heap_setCell w6 ⟨ge, a, none⟩ (.int .i64 tn) g (by show g ≠ ge; omega))).trans xtop
            generalize hw7 : w6.setCell ⟨ge, a, none⟩ (.int .i64 tn) = w7 at S7 M7 ztop ⊢
            clear hw7
            obtain ⟨⟨_, _, z2, _, z4, _, _⟩, _⟩ := gcells7 S7.out.box
            refine hK.out _ _ ⟨z2, z4, ztop⟩ (fun hHeld => ?_)
            clear hK K
            try simp only [Act.put, List.getElem_toArray, List.getElem_cons_zero, List.getElem_cons_succ, List.setIfInBounds_toArray, List.set_cons_zero, List.set_cons_succ]
            refine wpAnyH_done (by kernel_rfl) ?_ _
            have hpop := HOK.out.pop (rg := ringQ s tn l l.length) (en := s.en.set a tn) HST.out
            go_wp2_with fail
            refine wp_region_held_drew (S := fun _ => True) (by kernel_rfl) trivial (fun hHeld => ?_)
            have S8 := Lib.hid (S7.out.next (gdrew w7))
            have M8 := Lib.hid (M7.out.trans (.of_below (gdrew w7)))
            obtain ⟨w8, hw8⟩ : ∃ X, w7.drew = X := ⟨_, rfl⟩
            rw [hw8] at S8 M8 ⊢
            clear hw8
            obtain ⟨⟨x0, x1, x2, x3, x4, x5, x6⟩, u0, u1, u2, u3, u4, u5, u6⟩ := gcells7 S8.out.box
            have hil : ((rest.length : Int) + 1 - 1) = (rest.length : Int) := by omega
            have hcp2 : rest.length ≤ cp := by omega
            have hcp3 : ¬ cp = 0 := by omega
            refine wpAnyH_take (i := 0) (oi := _) (v := ?_) rfl (by kernel_rfl) (by kernel_rfl) (by kernel_rfl) (fun _ _ _ h => h) (Or.inl ⟨by rfl, ?_⟩) (by first | assumption | trivial) ?_
            rotate_left
            · (intro w hSw; (try dsimp only at hSw); go_simp; try with_reducible rfl)
            try simp only [Act.put, List.getElem_toArray, List.getElem_cons_zero, List.setIfInBounds_toArray, List.set_cons_zero, List.set_cons_succ]
            refine wpAnyH_take (i := 1) (oi := _) (v := ?_) rfl (by kernel_rfl) (by kernel_rfl) (by kernel_rfl) (fun _ _ _ h => h) (Or.inl ⟨by rfl, ?_⟩) (by first | assumption | trivial) ?_
            rotate_left
            · (intro w hSw; (try dsimp only at hSw); go_simp; try with_reducible rfl)
            try simp only [Act.put, List.getElem_toArray, List.getElem_cons_zero, List.getElem_cons_succ, List.setIfInBounds_toArray, List.set_cons_zero, List.set_cons_succ]
            refine wpAnyH_take (i := 2) (oi := _) (v := ?_) rfl (by kernel_rfl) (by kernel_rfl) (by kernel_rfl) (fun _ _ _ h => h) (Or.inl ⟨by rfl, ?_⟩) (by first | assumption | trivial) ?_
            rotate_left
            · (intro w hSw; (try dsimp only at hSw); go_simp; try with_reducible rfl)
            try simp only [Act.put, List.getElem_toArray, List.getElem_cons_zero, List.getElem_cons_succ, List.setIfInBounds_toArray, List.set_cons_zero, List.set_cons_succ]
            refine wpAnyH_take (i := 3) (oi := _) (v := ?_) rfl (by kernel_rfl) (by kernel_rfl) (by kernel_rfl) (fun _ _ _ h => h) (Or.inl ⟨by rfl, ?_⟩) (by first | assumption | trivial) ?_
            rotate_left
            · (intro w hSw; (try dsimp only at hSw); go_simp; try with_reducible rfl)
            try simp only [Act.put, List.getElem_toArray, List.getElem_cons_zero, List.getElem_cons_succ, List.setIfInBounds_toArray, List.set_cons_zero, List.set_cons_succ]
            refine wpAnyH_take (i := 5) (oi := _) (v := ?_) rfl (by kernel_rfl) (by kernel_rfl) (by kernel_rfl) (fun _ _ _ h => h) (Or.inl ⟨by rfl, ?_⟩) (by first | assumption | trivial) ?_
            rotate_left
            · (intro w hSw; (try dsimp only at hSw); go_simp; try with_reducible rfl)
            try simp only [Act.put, List.getElem_toArray, List.getElem_cons_zero, List.getElem_cons_succ, List.setIfInBounds_toArray, List.set_cons_zero, List.set_cons_succ]
            refine wpAnyH_take (i := 6) (oi := _) (v := ?_) rfl (by kernel_rfl) (by kernel_rfl) (by kernel_rfl) (fun _ _ _ h => h) (Or.inl ⟨by rfl, ?_⟩) (by first | assumption | trivial) ?_
            rotate_left
            · (intro w hSw; (try dsimp only at hSw); go_simp; try with_reducible rfl)
            try simp only [Act.put, List.getElem_toArray, List.getElem_cons_zero, List.getElem_cons_succ, List.setIfInBounds_toArray, List.set_cons_zero, List.set_cons_succ]
            refine wpAnyH_take (i := 7) (oi := _) (v := ?_) rfl (by kernel_rfl) (by kernel_rfl) (by kernel_rfl) (fun _ _ _ h => h) (Or.inl ⟨by rfl, ?_⟩) (by first | assumption | trivial) ?_
            rotate_left
            · (intro w hSw; (try dsimp only at hSw); go_simp; try with_reducible rfl)
            try simp only [Act.put, List.getElem_toArray, List.getElem_cons_zero, List.getElem_cons_succ, List.setIfInBounds_toArray, List.set_cons_zero, List.set_cons_succ]
            refine wpAnyH_ready (rs := [4, 8]) (by kernel_rfl) (by simp) ?_
            refine AllReadyH.cons (o := _) rfl (fun K hK => ?_) ?_
            · go_simp
              refine hK.out _ _ trivial (fun hHeld => ?_)
              clear hK K
              try simp only [Act.put, List.getElem_toArray, List.getElem_cons_zero, List.getElem_cons_succ, List.setIfInBounds_toArray, List.set_cons_zero, List.set_cons_succ]
              refine wpAnyH_ready (rs := [8]) (by kernel_rfl) (by simp) ?_
              refine AllReadyH.cons (o := _) rfl (fun K hK => ?_) AllReadyH.nil
              go_simp
              refine hK.out _ _ trivial (fun hHeld => ?_)
              clear hK K
              try simp only [Act.put, List.getElem_toArray, List.getElem_cons_zero, List.getElem_cons_succ, List.setIfInBounds_toArray, List.set_cons_zero, List.set_cons_succ]
              refine wpAnyH_take (i := 9) (oi := _) (v := ?_) rfl (by kernel_rfl) (by kernel_rfl) (by kernel_rfl) (fun _ _ _ h => h) (Or.inl ⟨by rfl, ?_⟩) (by first | assumption | trivial) ?_
              rotate_left
              · (intro w hSw; (try dsimp only at hSw); go_simp; try with_reducible rfl)
              try simp only [Act.put, List.getElem_toArray, List.getElem_cons_zero, List.getElem_cons_succ, List.setIfInBounds_toArray, List.set_cons_zero, List.set_cons_succ]
              refine wpAnyH_take (i := 10) (oi := _) (v := ?_) rfl (by kernel_rfl) (by kernel_rfl) (by kernel_rfl) (fun _ _ _ h => h) (Or.inl ⟨by rfl, ?_⟩) (by first | assumption | trivial) ?_
              rotate_left
              · (intro w hSw; (try dsimp only at hSw); go_simp; try with_reducible rfl)
              try simp only [Act.put, List.getElem_toArray, List.getElem_cons_zero, List.getElem_cons_succ, List.setIfInBounds_toArray, List.set_cons_zero, List.set_cons_succ]
              refine wpAnyH_take (i := 11) (oi := _) (v := ?_) rfl (by kernel_rfl) (by kernel_rfl) (by kernel_rfl) (fun _ _ _ h => h) (Or.inl ⟨by rfl, ?_⟩) (by first | assumption | trivial) ?_
              rotate_left
              · (intro w hSw; (try dsimp only at hSw); go_simp; try with_reducible rfl)
              try simp only [Act.put, List.getElem_toArray, List.getElem_cons_zero, List.getElem_cons_succ, List.setIfInBounds_toArray, List.set_cons_zero, List.set_cons_succ]
              refine wpAnyH_take (i := 12) (oi := _) (v := ?_) rfl (by kernel_rfl) (by kernel_rfl) (by kernel_rfl) (fun _ _ _ h => h) (Or.inl ⟨by rfl, ?_⟩) (by first | assumption | trivial) ?_
              rotate_left
              · (intro w hSw; (try dsimp only at hSw); go_simp; try with_reducible rfl)
              try simp only [Act.put, List.getElem_toArray, List.getElem_cons_zero, List.getElem_cons_succ, List.setIfInBounds_toArray, List.set_cons_zero, List.set_cons_succ]
              refine wpAnyH_take (i := 13) (oi := _) (v := ?_) rfl (by kernel_rfl) (by kernel_rfl) (by kernel_rfl) (fun _ _ _ h => h) (Or.inl ⟨by rfl, ?_⟩) (by first | assumption | trivial) ?_
              rotate_left
              · (intro w hSw; (try dsimp only at hSw); go_simp; try with_reducible rfl)
              try simp only [Act.put, List.getElem_toArray, List.getElem_cons_zero, List.getElem_cons_succ, List.setIfInBounds_toArray, List.set_cons_zero, List.set_cons_succ]
              refine wpAnyH_ready (rs := [14]) (by kernel_rfl) (by simp) ?_
              refine AllReadyH.cons (o := _) rfl (fun K hK => ?_) AllReadyH.nil
              go_simp
              have S9 := Lib.hid (S8.out.pop HST.out)
              have M9 := Lib.hid (M8.out.trans (MoV.set (i := 5) (v := .slice (some ⟨g, 0, none⟩) rest.length cp) (.inr (.inr (.inl rfl)))))
              generalize hw9 : w8.setCell ⟨r, 5, none⟩ (.slice (some ⟨g, 0, none⟩) rest.length cp) = w9 at S9 M9 ⊢
              clear hw9
              refine hK.out _ _ trivial (fun hHeld => ?_)
              clear hK K
              try simp only [Act.put, List.getElem_toArray, List.getElem_cons_zero, List.getElem_cons_succ, List.setIfInBounds_toArray, List.set_cons_zero, List.set_cons_succ]
              refine wpAnyH_done (by kernel_rfl) ?_ _
              go_wp2_with fail
              go_roundg (muS s tn - 1)
              case measure => have := hpop.2; omega
              case rel =>
                refine Asd.intro ⟨.slice (some ⟨g, 0, none⟩) rest.length cp, _, k + 1, S9.out, ⟨M9.out.os, M9.out.tape, M9.out.output, M9.out.size, M9.out.block, fun b hb => M9.out.own b hb⟩, hpop.1, ?_, by have := hpop.2; omega⟩
                rw [← iter_next HIT.out]
                unfold stepS
                rw [HST.out]
                show _ = (match scanS s tn l s.ring with | (some (x, t), rg) => beginS ws tn x { s with stk := (a, t) :: rest, ring := rg } | (none, rg) => { s with en := s.en.set a tn, stk := rest, ring := rg })
                rw [scan_none HRE.out]
            refine AllReadyH.cons (o := _) rfl (fun K hK => ?_) AllReadyH.nil
            go_simp
            refine hK.out _ _ trivial (fun hHeld => ?_)
            clear hK K
            try simp only [Act.put, List.getElem_toArray, List.getElem_cons_zero, List.getElem_cons_succ, List.setIfInBounds_toArray, List.set_cons_zero, List.set_cons_succ]
            refine wpAnyH_take (i := 9) (oi := _) (v := ?_) rfl (by kernel_rfl) (by kernel_rfl) (by kernel_rfl) (fun _ _ _ h => h) (Or.inl ⟨by rfl, ?_⟩) (by first | assumption | trivial) ?_
            rotate_left
            · (intro w hSw; (try dsimp only at hSw); go_simp; try with_reducible rfl)
            try simp only [Act.put, List.getElem_toArray, List.getElem_cons_zero, List.getElem_cons_succ, List.setIfInBounds_toArray, List.set_cons_zero, List.set_cons_succ]
            refine wpAnyH_take (i := 10) (oi := _) (v := ?_) rfl (by kernel_rfl) (by kernel_rfl) (by kernel_rfl) (fun _ _ _ h => h) (Or.inl ⟨by rfl, ?_⟩) (by first | assumption | trivial) ?_
            rotate_left
            · (intro w hSw; (try dsimp only at hSw); go_simp; try with_reducible rfl)
            try simp only [Act.put, List.getElem_toArray, List.getElem_cons_zero, List.getElem_cons_succ, List.setIfInBounds_toArray, List.set_cons_zero, List.set_cons_succ]
            refine wpAnyH_ready (rs := [4]) (by kernel_rfl) (by simp) ?_
            refine AllReadyH.cons (o := _) rfl (fun K hK => ?_) AllReadyH.nil
            go_simp
            refine hK.out _ _ trivial (fun hHeld => ?_)
            clear hK K
            try simp only [Act.put, List.getElem_toArray, List.getElem_cons_zero, List.getElem_cons_succ, List.setIfInBounds_toArray, List.set_cons_zero, List.set_cons_succ]
            refine wpAnyH_take (i := 11) (oi := _) (v := ?_) rfl (by kernel_rfl) (by kernel_rfl) (by kernel_rfl) (fun _ _ _ h => h) (Or.inl ⟨by rfl, ?_⟩) (by first | assumption | trivial) ?_
            rotate_left
            · (intro w hSw; (try dsimp only at hSw); go_simp; try with_reducible rfl)
            try simp only [Act.put, List.getElem_toArray, List.getElem_cons_zero, List.getElem_cons_succ, List.setIfInBounds_toArray, List.set_cons_zero, List.set_cons_succ]
            refine wpAnyH_take (i := 12) (oi := _) (v := ?_) rfl (by kernel_rfl) (by kernel_rfl) (by kernel_rfl) (fun _ _ _ h => h) (Or.inl ⟨by rfl, ?_⟩) (by first | assumption | trivial) ?_
            rotate_left
            · (intro w hSw; (try dsimp only at hSw); go_simp; try with_reducible rfl)
            try simp only [Act.put, List.getElem_toArray, List.getElem_cons_zero, List.getElem_cons_succ, List.setIfInBounds_toArray, List.set_cons_zero, List.set_cons_succ]
            refine wpAnyH_take (i := 13) (oi := _) (v := ?_) rfl (by kernel_rfl) (by kernel_rfl) (by kernel_rfl) (fun _ _ _ h => h) (Or.inl ⟨by rfl, ?_⟩) (by first | assumption | trivial) ?_
            rotate_left
            · (intro w hSw; (try dsimp only at hSw); go_simp; try with_reducible rfl)
            try simp only [Act.put, List.getElem_toArray, List.getElem_cons_zero, List.getElem_cons_succ, List.setIfInBounds_toArray, List.set_cons_zero, List.set_cons_succ]
            refine wpAnyH_ready (rs := [14]) (by kernel_rfl) (by simp) ?_
            refine AllReadyH.cons (o := _) rfl (fun K hK => ?_) AllReadyH.nil
            go_simp
            have S9 := Lib.hid (S8.out.pop HST.out)
            have M9 := Lib.hid (M8.out.trans (MoV.set (i := 5) (v := .slice (some ⟨g, 0, none⟩) rest.length cp) (.inr (.inr (.inl rfl)))))
            generalize hw9 : w8.setCell ⟨r, 5, none⟩ (.slice (some ⟨g, 0, none⟩) rest.length cp) = w9 at S9 M9 ⊢
            clear hw9
            refine hK.out _ _ trivial (fun hHeld => ?_)
            clear hK K
            try simp only [Act.put, List.getElem_toArray, List.getElem_cons_zero, List.getElem_cons_succ, List.setIfInBounds_toArray, List.set_cons_zero, List.set_cons_succ]
            refine wpAnyH_done (by kernel_rfl) ?_ _
            go_wp2_with fail
            go_roundg (muS s tn - 1)
            case measure => have := hpop.2; omega
            case rel =>
              refine Asd.intro ⟨.slice (some ⟨g, 0, none⟩) rest.length cp, _, k + 1, S9.out, ⟨M9.out.os, M9.out.tape, M9.out.output, M9.out.size, M9.out.block, fun b hb => M9.out.own b hb⟩, hpop.1, ?_, by have := hpop.2; omega⟩
              rw [← iter_next HIT.out]
              unfold stepS
              rw [HST.out]
              show _ = (match scanS s tn l s.ring with | (some (x, t), rg) => beginS ws tn x { s with stk := (a, t) :: rest, ring := rg } | (none, rg) => { s with en := s.en.set a tn, stk := rest, ring := rg })
              rw [scan_none HRE.out]
          | succ g2 =>
            have hql : q < l.length := by omega
            have hql' : (q : Int) < (l.length : Int) := by omega
            obtain ⟨x, hx⟩ : ∃ x, l[q]? = some x := ⟨_, List.getElem?_eq_getElem hql⟩
            have hxl : x < ws.length := HNS.out.2.2 x (List.mem_of_getElem? hx)
            obtain ⟨b, o, rfl, hbL, hxc⟩ := HI4.out q x hx
            have RE := Lib.hid (reached_any L r M gb ge Aw cw ws tn _ _ wr S4.out x hxl)
            obtain ⟨bb, hbb⟩ : ∃ b, reachB s tn x = b := ⟨_, rfl⟩
            change Hid (Calls _ _ _ _ (fun e W' => e = .returned (.bool (reachB s tn x)) ∧ _)) at RE
            rw [hbb] at RE
            have HBB := Lib.hid hbb
            have HX := Lib.hid hx
            clear hx hbb
            cases bb with
            | true =>
              go_wp2_with fail
              refine RE.out.mono ?_
              rintro e w5 ⟨rfl, hb⟩
              have S5 := Lib.hid (S4.out.next hb)
              have M5 := Lib.hid (M4.out.trans (.of_below hb))
              have XL := Lib.hid ((hb.cell (p := ⟨g, rest.length * 2 + 1, none⟩) hgl4).trans XLH.out)
              have hgl5 := Nat.lt_of_lt_of_le hgl4 hb.size
              clear hb RE S4 M4 xleft xtop xfz hxc
              obtain ⟨rb, hrb⟩ : ∃ b, ringQ s tn l q = b := ⟨_, rfl⟩
              rw [hrb] at S5
              have HRB := Lib.hid hrb
              clear hrb
              cases rb with
              | true =>
                go_wp2_with fail
                refine wp_region_held_drew (S := fun w' => w'.cell? ⟨r, 2, none⟩ = some (.int .i64 tn) ∧ w'.cell? ⟨r, 4, none⟩ = some (.slice (some ⟨ge, 0, none⟩) ws.length ws.length) ∧ w'.cell? ⟨ge, x, none⟩ = some (.int .i64 (s.en.getD x 0))) (by kernel_rfl) (by have h := S5.out.next (gdrew w5); exact ⟨(gcells7 h.box).1.2.2.1, (gcells7 h.box).1.2.2.2.2.1, (h.en.cell hxl).1⟩) (fun hHeld => ?_)
                have S5 := Lib.hid (S5.out.next (gdrew w5))
                have M5 := Lib.hid (M5.out.trans (.of_below (gdrew w5)))
                have XL := Lib.hid (((gdrew w5).cell (p := ⟨g, rest.length * 2 + 1, none⟩) hgl5).trans XL.out)
                obtain ⟨w6, hw6⟩ : ∃ X, w5.drew = X := ⟨_, rfl⟩
                rw [hw6] at S5 M5 XL hHeld ⊢
                clear hw6
                obtain ⟨⟨x0, x1, x2, x3, x4, x5, x6⟩, u0, u1, u2, u3, u4, u5, u6⟩ := gcells7 S5.out.box
                have xe := (S5.out.en.cell hxl).1
                refine wpAnyH_take (i := 0) (oi := _) (v := ?_) rfl (by kernel_rfl) (by kernel_rfl) (by kernel_rfl) (fun _ _ _ h => h) (Or.inl ⟨by rfl, ?_⟩) (by first | assumption | trivial) ?_
                rotate_left
                · (intro w hSw; (try dsimp only at hSw); go_simp; try with_reducible rfl)
                try simp only [Act.put, List.getElem_toArray, List.getElem_cons_zero, List.setIfInBounds_toArray, List.set_cons_zero, List.set_cons_succ]
                refine wpAnyH_take (i := 1) (oi := _) (v := ?_) rfl (by kernel_rfl) (by kernel_rfl) (by kernel_rfl) (fun _ _ _ h => h) (Or.inl ⟨by rfl, ?_⟩) (by first | assumption | trivial) ?_
                rotate_left
                · (intro w hSw; (try dsimp only at hSw); go_simp; try with_reducible rfl)
                try simp only [Act.put, List.getElem_toArray, List.getElem_cons_zero, List.getElem_cons_succ, List.setIfInBounds_toArray, List.set_cons_zero, List.set_cons_succ]
                refine wpAnyH_take (i := 2) (oi := _) (v := ?_) rfl (by kernel_rfl) (by kernel_rfl) (by kernel_rfl) (fun _ _ _ h => h) (Or.inl ⟨by rfl, ?_⟩) (by first | assumption | trivial) ?_
                rotate_left
                · (intro w hSw; (try dsimp only at hSw); go_simp; try with_reducible rfl)
                try simp only [Act.put, List.getElem_toArray, List.getElem_cons_zero, List.getElem_cons_succ, List.setIfInBounds_toArray, List.set_cons_zero, List.set_cons_succ]
                refine wpAnyH_take (i := 3) (oi := _) (v := ?_) rfl (by kernel_rfl) (by kernel_rfl) (by kernel_rfl) (fun _ _ _ h => h) (Or.inl ⟨by rfl, ?_⟩) (by first | assumption | trivial) ?_
                rotate_left
                · (intro w hSw; (try dsimp only at hSw); go_simp; try with_reducible rfl)
                try simp only [Act.put, List.getElem_toArray, List.getElem_cons_zero, List.getElem_cons_succ, List.setIfInBounds_toArray, List.set_cons_zero, List.set_cons_succ]
                refine wpAnyH_ready (rs := [4]) (by kernel_rfl) (by simp) ?_
                refine AllReadyH.cons (o := _) rfl (fun K hK => ?_) AllReadyH.nil
                go_simp
                refine hK.out _ _ hHeld (fun hHeld => ?_)
                clear hK K
                try simp only [Act.put, List.getElem_toArray, List.getElem_cons_zero, List.getElem_cons_succ, List.setIfInBounds_toArray, List.set_cons_zero, List.set_cons_succ]
                refine wpAnyH_take (i := 5) (oi := _) (v := ?_) rfl (by kernel_rfl) (by kernel_rfl) (by kernel_rfl) (fun _ _ _ h => h) (Or.inl ⟨by rfl, ?_⟩) (by first | assumption | trivial) ?_
                rotate_left
                · (intro w hSw; (try dsimp only at hSw); go_simp; try with_reducible rfl)
                try simp only [Act.put, List.getElem_toArray, List.getElem_cons_zero, List.getElem_cons_succ, List.setIfInBounds_toArray, List.set_cons_zero, List.set_cons_succ]
                refine wpAnyH_take (i := 6) (oi := _) (v := undef) rfl (by kernel_rfl) (by kernel_rfl) (by kernel_rfl) (fun _ _ _ h => h) (Or.inr ⟨by rfl, rfl⟩) (by first | assumption | trivial) ?_
                try simp only [Act.put, List.getElem_toArray, List.getElem_cons_zero, List.getElem_cons_succ, List.setIfInBounds_toArray, List.set_cons_zero, List.set_cons_succ]
                refine wpAnyH_take (i := 7) (oi := _) (v := undef) rfl (by kernel_rfl) (by kernel_rfl) (by kernel_rfl) (fun _ _ _ h => h) (Or.inr ⟨by rfl, rfl⟩) (by first | assumption | trivial) ?_
                try simp only [Act.put, List.getElem_toArray, List.getElem_cons_zero, List.getElem_cons_succ, List.setIfInBounds_toArray, List.set_cons_zero, List.set_cons_succ]
                refine wpAnyH_take (i := 8) (oi := _) (v := undef) rfl (by kernel_rfl) (by kernel_rfl) (by kernel_rfl) (fun _ _ _ h => h) (Or.inr ⟨by rfl, rfl⟩) (by first | assumption | trivial) ?_
                try simp only [Act.put, List.getElem_toArray, List.getElem_cons_zero, List.getElem_cons_succ, List.setIfInBounds_toArray, List.set_cons_zero, List.set_cons_succ]
                refine wpAnyH_take (i := 9) (oi := _) (v := undef) rfl (by kernel_rfl) (by kernel_rfl) (by kernel_rfl) (fun _ _ _ h => h) (Or.inr ⟨by rfl, rfl⟩) (by first | assumption | trivial) ?_
                try simp only [Act.put, List.getElem_toArray, List.getElem_cons_zero, List.getElem_cons_succ, List.setIfInBounds_toArray, List.set_cons_zero, List.set_cons_succ]
                refine wpAnyH_take (i := 10) (oi := _) (v := undef) rfl (by kernel_rfl) (by kernel_rfl) (by kernel_rfl) (fun _ _ _ h => h) (Or.inr ⟨by rfl, rfl⟩) (by first | assumption | trivial) ?_
                try simp only [Act.put, List.getElem_toArray, List.getElem_cons_zero, List.getElem_cons_succ, List.setIfInBounds_toArray, List.set_cons_zero, List.set_cons_succ]
                refine wpAnyH_take (i := 11) (oi := _) (v := undef) rfl (by kernel_rfl) (by kernel_rfl) (by kernel_rfl) (fun _ _ _ h => h) (Or.inr ⟨by rfl, rfl⟩) (by first | assumption | trivial) ?_
                try simp only [Act.put, List.getElem_toArray, List.getElem_cons_zero, List.getElem_cons_succ, List.setIfInBounds_toArray, List.set_cons_zero, List.set_cons_succ]
                refine wpAnyH_take (i := 12) (oi := _) (v := undef) rfl (by kernel_rfl) (by kernel_rfl) (by kernel_rfl) (fun _ _ _ h => h) (Or.inr ⟨by rfl, rfl⟩) (by first | assumption | trivial) ?_
                try simp only [Act.put, List.getElem_toArray, List.getElem_cons_zero, List.getElem_cons_succ, List.setIfInBounds_toArray, List.set_cons_zero, List.set_cons_succ]
                refine wpAnyH_take (i := 13) (oi := _) (v := undef) rfl (by kernel_rfl) (by kernel_rfl) (by kernel_rfl) (fun _ _ _ h => h) (Or.inr ⟨by rfl, rfl⟩) (by first | assumption | trivial) ?_
                try simp only [Act.put, List.getElem_toArray, List.getElem_cons_zero, List.getElem_cons_succ, List.setIfInBounds_toArray, List.set_cons_zero, List.set_cons_succ]
                refine wpAnyH_take (i := 14) (oi := _) (v := undef) rfl (by kernel_rfl) (by kernel_rfl) (by kernel_rfl) (fun _ _ _ h => h) (Or.inr ⟨by rfl, rfl⟩) (by first | assumption | trivial) ?_
                try simp only [Act.put, List.getElem_toArray, List.getElem_cons_zero, List.getElem_cons_succ, List.setIfInBounds_toArray, List.set_cons_zero, List.set_cons_succ]
                refine wpAnyH_take (i := 15) (oi := _) (v := undef) rfl (by kernel_rfl) (by kernel_rfl) (by kernel_rfl) (fun _ _ _ h => h) (Or.inr ⟨by rfl, rfl⟩) (by first | assumption | trivial) ?_
                try simp only [Act.put, List.getElem_toArray, List.getElem_cons_zero, List.getElem_cons_succ, List.setIfInBounds_toArray, List.set_cons_zero, List.set_cons_succ]
                refine wpAnyH_take (i := 16) (oi := _) (v := undef) rfl (by kernel_rfl) (by kernel_rfl) (by kernel_rfl) (fun _ _ _ h => h) (Or.inr ⟨by rfl, rfl⟩) (by first | assumption | trivial) ?_
                try simp only [Act.put, List.getElem_toArray, List.getElem_cons_zero, List.getElem_cons_succ, List.setIfInBounds_toArray, List.set_cons_zero, List.set_cons_succ]
                refine wpAnyH_take (i := 17) (oi := _) (v := undef) rfl (by kernel_rfl) (by kernel_rfl) (by kernel_rfl) (fun _ _ _ h => h) (Or.inr ⟨by rfl, rfl⟩) (by first | assumption | trivial) ?_
                try simp only [Act.put, List.getElem_toArray, List.getElem_cons_zero, List.getElem_cons_succ, List.setIfInBounds_toArray, List.set_cons_zero, List.set_cons_succ]
                refine wpAnyH_take (i := 18) (oi := _) (v := ?_) rfl (by kernel_rfl) (by kernel_rfl) (by kernel_rfl) (fun _ _ _ h => h) (Or.inl ⟨by rfl, ?_⟩) (by first | assumption | trivial) ?_
                rotate_left
                · (intro w hSw; (try dsimp only at hSw); go_simp; try with_reducible rfl)
                try simp only [Act.put, List.getElem_toArray, List.getElem_cons_zero, List.getElem_cons_succ, List.setIfInBounds_toArray, List.set_cons_zero, List.set_cons_succ]
                refine wpAnyH_take (i := 19) (oi := _) (v := ?_) rfl (by kernel_rfl) (by kernel_rfl) (by kernel_rfl) (fun _ _ _ h => h) (Or.inl ⟨by rfl, ?_⟩) (by first | assumption | trivial) ?_
                rotate_left
                · (intro w hSw; (try dsimp only at hSw); go_simp; try with_reducible rfl)
                try simp only [Act.put, List.getElem_toArray, List.getElem_cons_zero, List.getElem_cons_succ, List.setIfInBounds_toArray, List.set_cons_zero, List.set_cons_succ]
                refine wpAnyH_take (i := 20) (oi := _) (v := ?_) rfl (by kernel_rfl) (by kernel_rfl) (by kernel_rfl) (fun _ _ _ h => h) (Or.inl ⟨by rfl, ?_⟩) (by first | assumption | trivial) ?_
                rotate_left
                · (intro w hSw; (try dsimp only at hSw); go_simp; try with_reducible rfl)
                try simp only [Act.put, List.getElem_toArray, List.getElem_cons_zero, List.getElem_cons_succ, List.setIfInBounds_toArray, List.set_cons_zero, List.set_cons_succ]
                refine wpAnyH_ready (rs := [21]) (by kernel_rfl) (by simp) ?_
                refine AllReadyH.cons (o := _) rfl (fun K hK => ?_) AllReadyH.nil
                go_simp
                have S7 := Lib.hid (S5.out.setRing true)
                have M7 := Lib.hid (M5.out.trans (MoV.set (i := 6) (v := .bool true) (.inr (.inr (.inl rfl)))))
                have XL := Lib.hid ((World.cell?_of_block (a := ⟨g, rest.length * 2 + 1, none⟩) (Below.heap_setCell w6 ⟨r, 6, none⟩ (.bool true) g (by show g ≠ r; omega))).trans XL.out)
                generalize hw7 : w6.setCell ⟨r, 6, none⟩ (.bool true) = w7 at S7 M7 XL ⊢
                clear hw7
                obtain ⟨⟨_, _, z2, _, z4, _, _⟩, _⟩ := gcells7 S7.out.box
                have ze := (S7.out.en.cell hxl).1
                refine hK.out _ _ ⟨z2, z4, ze⟩ (fun hHeld => ?_)
                clear hK K
                try simp only [Act.put, List.getElem_toArray, List.getElem_cons_zero, List.getElem_cons_succ, List.setIfInBounds_toArray, List.set_cons_zero, List.set_cons_succ]
                refine wpAnyH_done (by kernel_rfl) ?_ _
                go_wp2_with fail
                go_roundg g2
                case measure => omega
                case rel =>
                  refine ⟨q + 1, by omega, by go_num, Asd.intro ⟨?_, M7.out, XL.out, fun j y hj hy => ?_⟩⟩
                  · rw [ringQ_next HX.out, HRB.out]
                    exact S7.out
                  · rcases Nat.lt_or_ge j q with h | h
                    · exact HRE.out j y h hy
                    · obtain rfl : j = q := by omega
                      rw [HX.out] at hy
                      obtain rfl := Option.some.inj hy
                      exact HBB.out

              | false =>
                go_wp2_with fail
                refine wp_region_held_drew (S := fun w' => w'.cell? ⟨r, 2, none⟩ = some (.int .i64 tn) ∧ w'.cell? ⟨r, 4, none⟩ = some (.slice (some ⟨ge, 0, none⟩) ws.length ws.length) ∧ w'.cell? ⟨ge, x, none⟩ = some (.int .i64 (s.en.getD x 0))) (by kernel_rfl) (by have h := S5.out.next (gdrew w5); exact ⟨(gcells7 h.box).1.2.2.1, (gcells7 h.box).1.2.2.2.2.1, (h.en.cell hxl).1⟩) (fun hHeld => ?_)
                have S5 := Lib.hid (S5.out.next (gdrew w5))
                have M5 := Lib.hid (M5.out.trans (.of_below (gdrew w5)))
                have XL := Lib.hid (((gdrew w5).cell (p := ⟨g, rest.length * 2 + 1, none⟩) hgl5).trans XL.out)
                obtain ⟨w6, hw6⟩ : ∃ X, w5.drew = X := ⟨_, rfl⟩
                rw [hw6] at S5 M5 XL hHeld ⊢
                clear hw6
                obtain ⟨⟨x0, x1, x2, x3, x4, x5, x6⟩, u0, u1, u2, u3, u4, u5, u6⟩ := gcells7 S5.out.box
                have xe := (S5.out.en.cell hxl).1
                refine wpAnyH_take (i := 0) (oi := _) (v := ?_) rfl (by kernel_rfl) (by kernel_rfl) (by kernel_rfl) (fun _ _ _ h => h) (Or.inl ⟨by rfl, ?_⟩) (by first | assumption | trivial) ?_
                rotate_left
                · (intro w hSw; (try dsimp only at hSw); go_simp; try with_reducible rfl)
                try simp only [Act.put, List.getElem_toArray, List.getElem_cons_zero, List.setIfInBounds_toArray, List.set_cons_zero, List.set_cons_succ]
                refine wpAnyH_take (i := 1) (oi := _) (v := ?_) rfl (by kernel_rfl) (by kernel_rfl) (by kernel_rfl) (fun _ _ _ h => h) (Or.inl ⟨by rfl, ?_⟩) (by first | assumption | trivial) ?_
                rotate_left
                · (intro w hSw; (try dsimp only at hSw); go_simp; try with_reducible rfl)
                try simp only [Act.put, List.getElem_toArray, List.getElem_cons_zero, List.getElem_cons_succ, List.setIfInBounds_toArray, List.set_cons_zero, List.set_cons_succ]
                refine wpAnyH_take (i := 2) (oi := _) (v := ?_) rfl (by kernel_rfl) (by kernel_rfl) (by kernel_rfl) (fun _ _ _ h => h) (Or.inl ⟨by rfl, ?_⟩) (by first | assumption | trivial) ?_
                rotate_left
                · (intro w hSw; (try dsimp only at hSw); go_simp; try with_reducible rfl)
                try simp only [Act.put, List.getElem_toArray, List.getElem_cons_zero, List.getElem_cons_succ, List.setIfInBounds_toArray, List.set_cons_zero, List.set_cons_succ]
                refine wpAnyH_take (i := 3) (oi := _) (v := ?_) rfl (by kernel_rfl) (by kernel_rfl) (by kernel_rfl) (fun _ _ _ h => h) (Or.inl ⟨by rfl, ?_⟩) (by first | assumption | trivial) ?_
                rotate_left
                · (intro w hSw; (try dsimp only at hSw); go_simp; try with_reducible rfl)
                try simp only [Act.put, List.getElem_toArray, List.getElem_cons_zero, List.getElem_cons_succ, List.setIfInBounds_toArray, List.set_cons_zero, List.set_cons_succ]
                refine wpAnyH_ready (rs := [4]) (by kernel_rfl) (by simp) ?_
                refine AllReadyH.cons (o := _) rfl (fun K hK => ?_) AllReadyH.nil
                go_simp
                refine hK.out _ _ hHeld (fun hHeld => ?_)
                clear hK K
                try simp only [Act.put, List.getElem_toArray, List.getElem_cons_zero, List.getElem_cons_succ, List.setIfInBounds_toArray, List.set_cons_zero, List.set_cons_succ]
                refine wpAnyH_take (i := 5) (oi := _) (v := ?_) rfl (by kernel_rfl) (by kernel_rfl) (by kernel_rfl) (fun _ _ _ h => h) (Or.inl ⟨by rfl, ?_⟩) (by first | assumption | trivial) ?_
                rotate_left
                · (intro w hSw; (try dsimp only at hSw); go_simp; try with_reducible rfl)
                try simp only [Act.put, List.getElem_toArray, List.getElem_cons_zero, List.getElem_cons_succ, List.setIfInBounds_toArray, List.set_cons_zero, List.set_cons_succ]
                refine wpAnyH_take (i := 6) (oi := _) (v := ?_) rfl (by kernel_rfl) (by kernel_rfl) (by kernel_rfl) (fun _ _ _ h => h) (Or.inl ⟨by rfl, ?_⟩) (by first | assumption | trivial) ?_
                rotate_left
                · (intro w hSw; (try dsimp only at hSw); go_simp; try with_reducible rfl)
                try simp only [Act.put, List.getElem_toArray, List.getElem_cons_zero, List.getElem_cons_succ, List.setIfInBounds_toArray, List.set_cons_zero, List.set_cons_succ]
                refine wpAnyH_take (i := 7) (oi := _) (v := ?_) rfl (by kernel_rfl) (by kernel_rfl) (by kernel_rfl) (fun _ _ _ h => h) (Or.inl ⟨by rfl, ?_⟩) (by first | assumption | trivial) ?_
                rotate_left
                · (intro w hSw; (try dsimp only at hSw); go_simp; try with_reducible rfl)
                try simp only [Act.put, List.getElem_toArray, List.getElem_cons_zero, List.getElem_cons_succ, List.setIfInBounds_toArray, List.set_cons_zero, List.set_cons_succ]
                refine wpAnyH_take (i := 8) (oi := _) (v := ?_) rfl (by kernel_rfl) (by kernel_rfl) (by kernel_rfl) (fun _ _ _ h => h) (Or.inl ⟨by rfl, ?_⟩) (by first | assumption | trivial) ?_
                rotate_left
                · (intro w hSw; (try dsimp only at hSw); go_simp; try with_reducible rfl)
                try simp only [Act.put, List.getElem_toArray, List.getElem_cons_zero, List.getElem_cons_succ, List.setIfInBounds_toArray, List.set_cons_zero, List.set_cons_succ]
                refine wpAnyH_take (i := 9) (oi := _) (v := ?_) rfl (by kernel_rfl) (by kernel_rfl) (by kernel_rfl) (fun _ _ _ h => h) (Or.inl ⟨by rfl, ?_⟩) (by first | assumption | trivial) ?_
                rotate_left
                · (intro w hSw; (try dsimp only at hSw); go_simp; try with_reducible rfl)
                try simp only [Act.put, List.getElem_toArray, List.getElem_cons_zero, List.getElem_cons_succ, List.setIfInBounds_toArray, List.set_cons_zero, List.set_cons_succ]
                refine wpAnyH_take (i := 10) (oi := _) (v := ?_) rfl (by kernel_rfl) (by kernel_rfl) (by kernel_rfl) (fun _ _ _ h => h) (Or.inl ⟨by rfl, ?_⟩) (by first | assumption | trivial) ?_
                rotate_left
                · (intro w hSw; (try dsimp only at hSw); go_simp; try with_reducible rfl)
                try simp only [Act.put, List.getElem_toArray, List.getElem_cons_zero, List.getElem_cons_succ, List.setIfInBounds_toArray, List.set_cons_zero, List.set_cons_succ]
                refine wpAnyH_take (i := 11) (oi := _) (v := ?_) rfl (by kernel_rfl) (by kernel_rfl) (by kernel_rfl) (fun _ _ _ h => h) (Or.inl ⟨by rfl, ?_⟩) (by first | assumption | trivial) ?_
                rotate_left
                · (intro w hSw; (try dsimp only at hSw); go_simp; try with_reducible rfl)
                try simp only [Act.put, List.getElem_toArray, List.getElem_cons_zero, List.getElem_cons_succ, List.setIfInBounds_toArray, List.set_cons_zero, List.set_cons_succ]
                refine wpAnyH_take (i := 12) (oi := _) (v := ?_) rfl (by kernel_rfl) (by kernel_rfl) (by kernel_rfl) (fun _ _ _ h => h) (Or.inl ⟨by rfl, ?_⟩) (by first | assumption | trivial) ?_
                rotate_left
                · (intro w hSw; (try dsimp only at hSw); go_simp; try with_reducible rfl)
                try simp only [Act.put, List.getElem_toArray, List.getElem_cons_zero, List.getElem_cons_succ, List.setIfInBounds_toArray, List.set_cons_zero, List.set_cons_succ]
                refine wpAnyH_take (i := 13) (oi := _) (v := ?_) rfl (by kernel_rfl) (by kernel_rfl) (by kernel_rfl) (fun _ _ _ h => h) (Or.inl ⟨by rfl, ?_⟩) (by first | assumption | trivial) ?_
                rotate_left
                · (intro w hSw; (try dsimp only at hSw); go_simp; try with_reducible rfl)
                try simp only [Act.put, List.getElem_toArray, List.getElem_cons_zero, List.getElem_cons_succ, List.setIfInBounds_toArray, List.set_cons_zero, List.set_cons_succ]
                refine wpAnyH_take (i := 14) (oi := _) (v := ?_) rfl (by kernel_rfl) (by kernel_rfl) (by kernel_rfl) (fun _ _ _ h => h) (Or.inl ⟨by rfl, ?_⟩) (by first | assumption | trivial) ?_
                rotate_left
                · (intro w hSw; (try dsimp only at hSw); go_simp; try with_reducible rfl)
                try simp only [Act.put, List.getElem_toArray, List.getElem_cons_zero, List.getElem_cons_succ, List.setIfInBounds_toArray, List.set_cons_zero, List.set_cons_succ]
                refine wpAnyH_take (i := 15) (oi := _) (v := ?_) rfl (by kernel_rfl) (by kernel_rfl) (by kernel_rfl) (fun _ _ _ h => h) (Or.inl ⟨by rfl, ?_⟩) (by first | assumption | trivial) ?_
                rotate_left
                · (intro w hSw; (try dsimp only at hSw); go_simp; try with_reducible rfl)
                try simp only [Act.put, List.getElem_toArray, List.getElem_cons_zero, List.getElem_cons_succ, List.setIfInBounds_toArray, List.set_cons_zero, List.set_cons_succ]
                refine wpAnyH_take (i := 16) (oi := _) (v := ?_) rfl (by kernel_rfl) (by kernel_rfl) (by kernel_rfl) (fun _ _ _ h => h) (Or.inl ⟨by rfl, ?_⟩) (by first | assumption | trivial) ?_
                rotate_left
                · (intro w hSw; (try dsimp only at hSw); go_simp; try with_reducible rfl)
                try simp only [Act.put, List.getElem_toArray, List.getElem_cons_zero, List.getElem_cons_succ, List.setIfInBounds_toArray, List.set_cons_zero, List.set_cons_succ]
                refine wpAnyH_take (i := 17) (oi := _) (v := ?_) rfl (by kernel_rfl) (by kernel_rfl) (by kernel_rfl) (fun _ _ _ h => h) (Or.inl ⟨by rfl, ?_⟩) (by first | assumption | trivial) ?_
                rotate_left
                · (intro w hSw; (try dsimp only at hSw); go_simp; try with_reducible rfl)
                try simp only [Act.put, List.getElem_toArray, List.getElem_cons_zero, List.getElem_cons_succ, List.setIfInBounds_toArray, List.set_cons_zero, List.set_cons_succ]
                refine wpAnyH_take (i := 18) (oi := _) (v := ?_) rfl (by kernel_rfl) (by kernel_rfl) (by kernel_rfl) (fun _ _ _ h => h) (Or.inl ⟨by rfl, ?_⟩) (by first | assumption | trivial) ?_
                rotate_left
                · (intro w hSw; (try dsimp only at hSw); go_simp; try with_reducible rfl)
                try simp only [Act.put, List.getElem_toArray, List.getElem_cons_zero, List.getElem_cons_succ, List.setIfInBounds_toArray, List.set_cons_zero, List.set_cons_succ]
                refine wpAnyH_take (i := 19) (oi := _) (v := ?_) rfl (by kernel_rfl) (by kernel_rfl) (by kernel_rfl) (fun _ _ _ h => h) (Or.inl ⟨by rfl, ?_⟩) (by first | assumption | trivial) ?_
                rotate_left
                · (intro w hSw; (try dsimp only at hSw); go_simp; try with_reducible rfl)
                try simp only [Act.put, List.getElem_toArray, List.getElem_cons_zero, List.getElem_cons_succ, List.setIfInBounds_toArray, List.set_cons_zero, List.set_cons_succ]
                refine wpAnyH_take (i := 20) (oi := _) (v := ?_) rfl (by kernel_rfl) (by kernel_rfl) (by kernel_rfl) (fun _ _ _ h => h) (Or.inl ⟨by rfl, ?_⟩) (by first | assumption | trivial) ?_
                rotate_left
                · (intro w hSw; (try dsimp only at hSw); go_simp; try with_reducible rfl)
                try simp only [Act.put, List.getElem_toArray, List.getElem_cons_zero, List.getElem_cons_succ, List.setIfInBounds_toArray, List.set_cons_zero, List.set_cons_succ]
                refine wpAnyH_ready (rs := [21]) (by kernel_rfl) (by simp) ?_
                refine AllReadyH.cons (o := _) rfl (fun K hK => ?_) AllReadyH.nil
                go_simp
                have S7 := Lib.hid (S5.out.setRing (s.en[x]?.getD 0 != tn))
                have M7 := Lib.hid (M5.out.trans (MoV.set (i := 6) (v := .bool (s.en[x]?.getD 0 != tn)) (.inr (.inr (.inl rfl)))))
                have XL := Lib.hid ((World.cell?_of_block (a := ⟨g, rest.length * 2 + 1, none⟩) (Below.heap_setCell w6 ⟨r, 6, none⟩ (.bool (s.en[x]?.getD 0 != tn)) g (by show g ≠ r; omega))).trans XL.out)
                generalize hw7 : w6.setCell ⟨r, 6, none⟩ (.bool (s.en[x]?.getD 0 != tn)) = w7 at S7 M7 XL ⊢
                clear hw7
                obtain ⟨⟨_, _, z2, _, z4, _, _⟩, _⟩ := gcells7 S7.out.box
                have ze := (S7.out.en.cell hxl).1
                refine hK.out _ _ ⟨z2, z4, ze⟩ (fun hHeld => ?_)
                clear hK K
                try simp only [Act.put, List.getElem_toArray, List.getElem_cons_zero, List.getElem_cons_succ, List.setIfInBounds_toArray, List.set_cons_zero, List.set_cons_succ]
                refine wpAnyH_done (by kernel_rfl) ?_ _
                go_wp2_with fail
                go_roundg g2
                case measure => omega
                case rel =>
                  refine ⟨q + 1, by omega, by go_num, Asd.intro ⟨?_, M7.out, XL.out, fun j y hj hy => ?_⟩⟩
                  · rw [ringQ_next HX.out, HRB.out]
                    exact S7.out
                  · rcases Nat.lt_or_ge j q with h | h
                    · exact HRE.out j y h hy
                    · obtain rfl : j = q := by omega
                      rw [HX.out] at hy
                      obtain rfl := Option.some.inj hy
                      exact HBB.out

            | false =>
              go_wp2_with fail
              refine RE.out.mono ?_
              rintro e wr' ⟨rfl, hb⟩
              have S4 := Lib.hid (S4.out.next hb)
              have M4 := Lib.hid (M4.out.trans (.of_below hb))
              have HI4 := Lib.hid (HI4.out.keep (P' := fun b => b < L) (fun b hl => ⟨hl, hb.block b (by have := S4.out.bg.lt; omega)⟩))
              have xleft := (hb.cell (p := ⟨g, rest.length * 2 + 1, none⟩) hgl4).trans XLH.out
              have xfz := (World.frozen?_of_block (a := ⟨g, rest.length * 2 + 1, none⟩) (hb.block g hgl4)).trans xfz
              clear hb RE xtop hxc
              by_cases hck : c = q + 1
              · subst hck
                have hl1 : l.length = q + 1 := by have := HL4.out; omega
                have hcut : Hid (∃ A5 c5, Value.slice (some ⟨b, o, none⟩) 0 0 = .slice A5 (l.drop (q + 1)).length c5 ∧ (l.drop (q + 1)).length ≤ c5 ∧ IntsG wr' (fun b => b < L) A5 (l.drop (q + 1))) := Lib.hid ⟨(some ⟨b, o, none⟩), 0, by rw [List.length_drop]; congr 1; omega, by rw [List.length_drop]; omega, (fun j y hj => by rw [List.drop_of_length_le (by omega)] at hj; cases hj)⟩
                go_upto_region 9 with fail
                generalize Value.slice (some ⟨b, o, none⟩) 0 0 = sv at hcut ⊢
                obtain ⟨A5, c5, rfl, hc5, hp5⟩ := hcut.out
                have S5 := Lib.hid (S4.out.setTop (a := a) (l := l) (t := l.drop (q + 1)) HST.out hc5 hp5)
                have M5 := Lib.hid (M4.out.trans (MoV.set (i := rest.length * 2 + 1) (v := .slice A5 (l.drop (q + 1)).length c5) (.inr (.inr (.inr rfl)))))
                generalize wr'.setCell ⟨g, rest.length * 2 + 1, none⟩ (.slice A5 (l.drop (q + 1)).length c5) = w5 at S5 M5 ⊢
                have hcutk := HOK.out.cut (t := l.drop (q + 1)) (rg := ringQ s tn l q) HST.out (by rw [List.length_drop]; omega) (fun y hy => List.mem_of_mem_drop hy)
                have HCK := Lib.hid hcutk
                have BE := Lib.hid (begin_any L r M gb ge Aw cw ws tn _ _ w5 S5.out x hxl (by show rest.length + 1 ≤ _; omega))
                clear hcut hc5 hp5 hcutk S4 M4
                go_wp2_with fail
                refine BE.out.mono ?_
                rintro e w7 ⟨⟨v, rfl⟩, V7, hS, hM⟩
                have S7 := Lib.hid hS
                have M7 := Lib.hid (M5.out.trans hM)
                clear hS hM BE
                go_wp2_with fail
                have hbg := HCK.out.1.begin HWS.out hxl HBB.out
                go_roundg (muS s tn - 1)
                case measure => have := hbg.2; have := HCK.out.2; omega
                case rel =>
                  refine Asd.intro ⟨V7, _, k + 1, S7.out, M7.out, hbg.1, ?_, by have := hbg.2; have := HCK.out.2; omega⟩
                  rw [← iter_next HIT.out]
                  unfold stepS
                  rw [HST.out]
                  show _ = (match scanS s tn l s.ring with | (some (x, t), rg) => beginS ws tn x { s with stk := (a, t) :: rest, ring := rg } | (none, rg) => { s with en := s.en.set a tn, stk := rest, ring := rg })
                  rw [scan_some HRE.out HX.out HBB.out]
              · have hck2 : q + 1 < c := by have := HL4.out; omega
                have hck3 : ¬ c = q + 1 := hck
                have hcut : Hid (∃ A5 c5, Value.slice (some ⟨b, o + (q + 1), none⟩) (l.length - (q + 1)) (c - (q + 1)) = .slice A5 (l.drop (q + 1)).length c5 ∧ (l.drop (q + 1)).length ≤ c5 ∧ IntsG wr' (fun b => b < L) A5 (l.drop (q + 1))) := Lib.hid ⟨(some ⟨b, o + (q + 1), none⟩), (c - (q + 1)), by rw [List.length_drop], by rw [List.length_drop]; omega, (fun j y hj => by
                  rw [List.getElem?_drop] at hj
                  obtain ⟨b', o', e, h1, h2⟩ := HI4.out (q + 1 + j) y hj
                  injection e with e
                  injection e with e1 e2
                  subst e1 e2
                  exact ⟨b, o + (q + 1), rfl, h1, by rw [Nat.add_assoc]; exact h2⟩)⟩
                go_upto_region 9 with fail
                generalize Value.slice (some ⟨b, o + (q + 1), none⟩) (l.length - (q + 1)) (c - (q + 1)) = sv at hcut ⊢
                obtain ⟨A5, c5, rfl, hc5, hp5⟩ := hcut.out
                have S5 := Lib.hid (S4.out.setTop (a := a) (l := l) (t := l.drop (q + 1)) HST.out hc5 hp5)
                have M5 := Lib.hid (M4.out.trans (MoV.set (i := rest.length * 2 + 1) (v := .slice A5 (l.drop (q + 1)).length c5) (.inr (.inr (.inr rfl)))))
                generalize wr'.setCell ⟨g, rest.length * 2 + 1, none⟩ (.slice A5 (l.drop (q + 1)).length c5) = w5 at S5 M5 ⊢
                have hcutk := HOK.out.cut (t := l.drop (q + 1)) (rg := ringQ s tn l q) HST.out (by rw [List.length_drop]; omega) (fun y hy => List.mem_of_mem_drop hy)
                have HCK := Lib.hid hcutk
                have BE := Lib.hid (begin_any L r M gb ge Aw cw ws tn _ _ w5 S5.out x hxl (by show rest.length + 1 ≤ _; omega))
                clear hcut hc5 hp5 hcutk S4 M4
                go_wp2_with fail
                refine BE.out.mono ?_
                rintro e w7 ⟨⟨v, rfl⟩, V7, hS, hM⟩
                have S7 := Lib.hid hS
                have M7 := Lib.hid (M5.out.trans hM)
                clear hS hM BE
                go_wp2_with fail
                have hbg := HCK.out.1.begin HWS.out hxl HBB.out
                go_roundg (muS s tn - 1)
                case measure => have := hbg.2; have := HCK.out.2; omega
                case rel =>
                  refine Asd.intro ⟨V7, _, k + 1, S7.out, M7.out, hbg.1, ?_, by have := hbg.2; have := HCK.out.2; omega⟩
                  rw [← iter_next HIT.out]
                  unfold stepS
                  rw [HST.out]
                  show _ = (match scanS s tn l s.ring with | (some (x, t), rg) => beginS ws tn x { s with stk := (a, t) :: rest, ring := rg } | (none, rg) => { s with en := s.en.set a tn, stk := rest, ring := rg })
                  rw [scan_some HRE.out HX.out HBB.out]
end Go.Proofs.Ytohkimibphleaaa
