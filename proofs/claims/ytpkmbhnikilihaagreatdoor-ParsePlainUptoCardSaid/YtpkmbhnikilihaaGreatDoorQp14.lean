/- The walk of value.within. -/
import Derived.Test.YtpkmbhnikilihaaGreatDoorQp13
namespace Go.Proofs.YtpkmbhnikilihaaGreatDoor
open Go.RowKit
def Filled (w : World) (B : Nat) (l : VL) (q : Nat) (xs : List Value) : Prop := ∀ (j : Nat) v, j < q → l.get j = some v → ∃ c0 c1 c2 c3 c4, VAt w B v c0 c1 c2 c3 c4 ∧ xs[j * 5]? = some c0 ∧ xs[j * 5 + 1]? = some c1 ∧ xs[j * 5 + 2]? = some c2 ∧ xs[j * 5 + 3]? = some c3 ∧ xs[j * 5 + 4]? = some c4
def RB (base n G B : Nat) (l : VL) (w : World) (q : Nat) : Prop := ∃ xs, w.ownsRow base 35 5 (.slice (some ⟨G, 0, none⟩) n n) n xs ∧ Filled w B l q xs
theorem kids_list (n : Int) (s : ByteArray) (l : VL) (m : VM) : VT.kids (.mk 6 n s l m) = l := by rw [VT.kids, if_pos rfl]
theorem kids_map (n : Int) (s : ByteArray) (l : VL) (m : VM) : VT.kids (.mk 7 n s l m) = m.vals := by rw [VT.kids, if_neg (by omega), if_pos rfl]
theorem kids_none (k n : Int) (s : ByteArray) (l : VL) (m : VM) (h6 : ¬ k = 6) (h7 : ¬ k = 7) : VT.kids (.mk k n s l m) = .nil := by rw [VT.kids, if_neg h6, if_neg h7]
def WithinC (v : VT) : Prop := ∀ (c0 c1 c2 c3 c4 : Value) (w : World) (B : Nat), B ≤ w.heap.size → VAt w B v c0 c1 c2 c3 c4 →
 Calls Tryz.prog 67 #[.agg #[c0, c1, c2, c3, c4]] w fun e w' => ∃ A c, e = .returned (.slice A v.kids.len c) ∧ RowV w' B v.kids A ∧ Below w.heap.size w w'
theorem within_said {w' w : World} {B : Nat} {v : VT} {l : VL} {A : Option Addr} {c : Nat} (hk : v.kids = l) (hr : RowV w' B l A) (hb : Below w.heap.size w w') : ∃ A' c', Ending.returned (.slice A l.len c) = .returned (.slice A' v.kids.len c') ∧ RowV w' B v.kids A' ∧ Below w.heap.size w w' :=
 ⟨A, c, by rw [hk], by rw [hk]; exact hr, hb⟩
theorem not_frozen {w : World} {base : Nat} {e : TypeId} {sz n cap g : Nat} {xs : List Value} (h : w.ownsRow base e sz (.slice (some ⟨g, 0, none⟩) n cap) n xs) (i : Nat) : w.frozen? ⟨g, i, none⟩ = false := by
 rcases h.2 with ⟨h', _⟩ | ⟨g', cap', cur, h', _, hg, _⟩
 · simp at h'
 · injection h' with e1 e2 e3
   injection e1 with e1
   injection e1 with e1
   subst e1
   simp [World.frozen?, hg]
theorem VL.lt_get : ∀ {l : VL} {j : Nat} {v : VT}, l.get j = some v → j < l.len
 | .nil, _, _, h => by simp [VL.get] at h
 | .cons _ _, 0, _, _ => by simp [VL.len]
 | .cons _ t, j + 1, _, h => by have := VL.lt_get (l := t) h; simp [VL.len]; omega
theorem stored_below {w wr : World} {g i : Nat} {d0 d1 d2 d3 d4 : Value} {o : Obj} (h : Below w.heap.size w wr) (hg : w.heap.size ≤ g) :
  Below w.heap.size w ((((((wr.setCell ⟨g, i, none⟩ d0).setCell ⟨g, i + 1, none⟩ d1).setCell ⟨g, i + 2, none⟩ d2).setCell ⟨g, i + 3, none⟩ d3).setCell ⟨g, i + 4, none⟩ d4).alloc o) := by
 have h0 := ((((h.setCell (p := ⟨g, i, none⟩) hg d0).setCell (p := ⟨g, i + 1, none⟩) hg d1).setCell (p := ⟨g, i + 2, none⟩) hg d2).setCell (p := ⟨g, i + 3, none⟩) hg d3).setCell (p := ⟨g, i + 4, none⟩) hg d4
 exact h0.alloc h0.size o
theorem set_other {xs : List Value} {i j : Nat} {u z : Value} (h : i ≠ j) (hx : xs[j]? = some z) : (xs.set i u)[j]? = some z := by rw [List.getElem?_set_ne h]; exact hx
theorem set_here {xs : List Value} {i : Nat} {u : Value} (h : i < xs.length) : (xs.set i u)[i]? = some u := by rw [List.getElem?_set_self h]
theorem stored_filled {w wr : World} {base n g B q : Nat} {l : VL} {v : VT} {xs : List Value} {d0 d1 d2 d3 d4 : Value} {o : Obj} (hB : B ≤ w.heap.size) (hb : Below w.heap.size w wr) (hg : w.heap.size ≤ g) (hown : wr.ownsRow base 35 5 (.slice (some ⟨g, 0, none⟩) n n) n xs) (hf : Filled wr B l q xs) (hq : q < n) (hv : l.get q = some v) (hV : VAt wr B v d0 d1 d2 d3 d4) :
   RB base n g B l ((((((wr.setCell ⟨g, q * 5, none⟩ d0).setCell ⟨g, q * 5 + 1, none⟩ d1).setCell ⟨g, q * 5 + 2, none⟩ d2).setCell ⟨g, q * 5 + 3, none⟩ d3).setCell ⟨g, q * 5 + 4, none⟩ d4).alloc o) (q + 1) := by
 have s0 := (hown.stored (q * 5) d0).1
 have s1 := (s0.stored (q * 5 + 1) d1).1
 have s2 := (s1.stored (q * 5 + 2) d2).1
 have s3 := (s2.stored (q * 5 + 3) d3).1
 have s4 := (s3.stored (q * 5 + 4) d4).1
 have hbw : Below B wr ((((((wr.setCell ⟨g, q * 5, none⟩ d0).setCell ⟨g, q * 5 + 1, none⟩ d1).setCell ⟨g, q * 5 + 2, none⟩ d2).setCell ⟨g, q * 5 + 3, none⟩ d3).setCell ⟨g, q * 5 + 4, none⟩ d4).alloc o) := by
   have hgB : B ≤ g := Nat.le_trans hB hg
   have hBr : B ≤ wr.heap.size := Nat.le_trans hB hb.size
   have h0 := (((((Below.refl B wr).setCell (p := ⟨g, q * 5, none⟩) hgB d0).setCell (p := ⟨g, q * 5 + 1, none⟩) hgB d1).setCell (p := ⟨g, q * 5 + 2, none⟩) hgB d2).setCell (p := ⟨g, q * 5 + 3, none⟩) hgB d3).setCell (p := ⟨g, q * 5 + 4, none⟩) hgB d4
   exact h0.alloc (Nat.le_trans hBr h0.size) o
 have hl := hown.1
 refine ⟨_, own_low s4 ((Below.refl _ _).alloc (Nat.le_refl _) o), fun j u hj hu => ?_⟩
 rcases Nat.lt_or_ge j q with hjq | hjq
 · obtain ⟨c0, c1, c2, c3, c4, hc, g0, g1, g2, g3, g4⟩ := hf j u hjq hu
   refine ⟨c0, c1, c2, c3, c4, VAt.below hbw _ _ _ _ _ _ hc, ?_, ?_, ?_, ?_, ?_⟩
   all_goals
     refine set_other (by omega) (set_other (by omega) (set_other (by omega) (set_other (by omega) (set_other (by omega) ?_))))
     assumption
 · obtain rfl : j = q := by omega
   rw [hv] at hu
   cases hu
   refine ⟨d0, d1, d2, d3, d4, VAt.below hbw _ _ _ _ _ _ hV, ?_, ?_, ?_, ?_, ?_⟩
   · exact set_other (by omega) (set_other (by omega) (set_other (by omega) (set_other (by omega) (set_here (by omega)))))
   · exact set_other (by omega) (set_other (by omega) (set_other (by omega) (set_here (by simp; omega))))
   · exact set_other (by omega) (set_other (by omega) (set_here (by simp; omega)))
   · exact set_other (by omega) (set_here (by simp; omega))
   · exact set_here (by simp; omega)
theorem RB.row {base n G B : Nat} {l : VL} {w : World} (h : RB base n G B l w n) (hl : l.len = n) : RowV w B l (some ⟨G, 0, none⟩) := by
 obtain ⟨xs, hown, hf⟩ := h
 intro j v hj
 have hjn : j < n := by rw [← hl]; exact VL.lt_get hj
 obtain ⟨c0, c1, c2, c3, c4, hv, h0, h1, h2, h3, h4⟩ := hf j v hjn hj
 have hat : ∀ i u, xs[i]? = some u → w.cell? ⟨G, i, none⟩ = some u := fun i u hu => by
  have hil := (List.getElem?_eq_some_iff.1 hu).1
  rw [hown.1] at hil
  rw [World.ownsRow.cellAt hown i hil, hu]
 exact ⟨G, 0, c0, c1, c2, c3, c4, rfl, (hown.lt _ rfl).2, ⟨by rw [Nat.zero_add]; exact hat _ _ h0, by rw [Nat.zero_add]; exact hat _ _ h1, by rw [Nat.zero_add]; exact hat _ _ h2, by rw [Nat.zero_add]; exact hat _ _ h3, by rw [Nat.zero_add]; exact hat _ _ h4⟩, hv⟩
set_option maxRecDepth 100000 in
set_option maxHeartbeats 4000000 in
theorem within_any (v : VT) (hz : sizeV v ≤ 1100000) : WithinC v := by
 intro c0 c1 c2 c3 c4 w B hB hv
 obtain ⟨k, n, s, l, m⟩ := v
 have hml : m.len ≤ 1100000 := by rw [sizeV] at hz; have := lenM_le m; omega
 unfold VAt at hv
 obtain ⟨rfl, rfl, rfl, _, ⟨A, c, rfl, hl, hL⟩, A', c', rfl, hm, hM⟩ := hv
 have hb0 : Below w.heap.size w (w.alloc (.cells #[.int .i64 k, .int .i64 n, .string s, .slice A l.len c, .slice A' m.len c'] 35)) := (Below.refl _ _).alloc (Nat.le_refl _) _
 have HB := Hd hb0
 have HB0 := Hd hB
 have HL := Hd hL
 have HM := Hd hM
 clear hL hM hB hb0 hz
 by_cases k6 : k = 6
 · subst k6
   go_enter Tryz.func67, Tryz.ntmps67
   go_wp2_with fail
   go_ret
   exact within_said (kids_list _ _ _ _) (RowV.of_list (Nat.le_trans HB0.out HB.out.size) (LAt.below (HB.out.mono HB0.out) _ _ _ HL.out)) HB.out
 · by_cases k7 : k = 7
   · subst k7
     obtain ⟨i0, hi, hz0, hz1, hz2⟩ := info_parts info_val
     clear k6
     go_enter Tryz.func67, Tryz.ntmps67
     have hbox4 : Hid ((w.alloc (.cells #[.int .i64 7, .int .i64 n, .string s, .slice A l.len c, .slice A' m.len c'] 35)).cell? ⟨w.heap.size, 4, none⟩ = some (.slice A' m.len c')) := Hd (by rw [World.cell?_alloc_at _ _ _ _ rfl]; rfl)
     go_wp2_with (at_make; refine wpList_make_full _ rfl _ _ 32 rfl w.heap.size 35 i0 _ 5 Tryz.underlying32 hi hz0 hz1 .i64 .i64 _ _ m.len rfl rfl (by first | rfl | omega) (by first | rfl | omega) (by rw [hz2]; omega) (by unfold maxLen; omega) (by simp) ?_; intro w2 hown hgr; have hb2 := (Below.refl _ _).grown hgr (Nat.le_refl _) (fun k h => by cases h); have hc4 : w2.cell? ⟨w.heap.size, 4, none⟩ = some (.slice A' m.len c') := (hb2.cell (p := ⟨w.heap.size, 4, none⟩) (by simp)).trans hbox4.out; have HB2 := Hd (HB.out.trans (hb2.mono HB.out.size)); have HO := Hd hown; clear hown hgr hb2)
     have hsz : (w.alloc (.cells #[.int .i64 7, .int .i64 n, .string s, .slice A l.len c, .slice A' m.len c'] 35)).heap.size = w.heap.size + 1 := by simp
     rw [hsz] at HO
     clear hsz hc4 hbox4 HB
     go_loopg [21] m.len (fun g i wx => ∃ q : Nat, q + g = m.len ∧ i = .int .i64 q ∧ Below w.heap.size w wx ∧ Aside (RB w.heap.size m.len (w.heap.size + 1) B m.vals wx q))
     case atStart => exact ⟨0, by omega, rfl, HB2.out, vaside ⟨_, HO.out, fun j v hj => absurd hj (Nat.not_lt_zero _)⟩⟩
     case round =>
      obtain ⟨q, hq, rfl, hb, HA⟩ := hrel
      have HBB := Hd hb
      clear hb HO HB2
      cases gk with
      | zero =>
        obtain rfl : q = m.len := by omega
        go_wp2_with fail
        go_ret
        exact ⟨some ⟨w.heap.size + 1, 0, none⟩, m.len, by rw [kids_map, VM.len_vals]; rfl, by rw [kids_map]; exact RB.row HA (VM.len_vals m), HBB.out⟩
      | succ g =>
        have hqn : q < m.len := by omega
        have hqn' : (q : Int) < (m.len : Int) := by omega
        obtain ⟨⟨nm, v⟩, hv⟩ := VM.get_lt hqn
        obtain ⟨b, o, d0, d1, d2, d3, d4, rfl, hblt, hnm, _, hF, hV⟩ := MAt.at (MAt.below (HBB.out.mono HB0.out) _ _ _ HM.out) hv
        rw [Nat.zero_add] at hF hnm
        have hV0 := Hd hV
        have HV := Hd (VM.get_vals hv)
        obtain ⟨vk, vn, vs, vl, vm⟩ := v
        unfold VAt at hV
        obtain ⟨rfl, rfl, rfl, _, ⟨A3, c3', rfl, _, _⟩, A4, c4', rfl, _, _⟩ := hV
        obtain ⟨f0, f1, f2, f3, f4⟩ := hF
        obtain ⟨xs, hown, hfill⟩ := HA
        have hlen := hown.1
        obtain ⟨z0, hz0'⟩ : ∃ z, xs[q * 5]? = some z := ⟨_, List.getElem?_eq_getElem (by omega)⟩
        obtain ⟨z1, hz1'⟩ : ∃ z, xs[q * 5 + 1]? = some z := ⟨_, List.getElem?_eq_getElem (by omega)⟩
        obtain ⟨z2, hz2'⟩ : ∃ z, xs[q * 5 + 2]? = some z := ⟨_, List.getElem?_eq_getElem (by omega)⟩
        obtain ⟨z3, hz3'⟩ : ∃ z, xs[q * 5 + 3]? = some z := ⟨_, List.getElem?_eq_getElem (by omega)⟩
        obtain ⟨z4, hz4'⟩ : ∃ z, xs[q * 5 + 4]? = some z := ⟨_, List.getElem?_eq_getElem (by omega)⟩
        have hat := fun i u (hi : xs[i]? = some u) => (World.ownsRow.cellAt hown i (by rw [← hlen]; exact (List.getElem?_eq_some_iff.1 hi).1)).trans hi
        have y0 := hat _ _ hz0'
        have y1 := hat _ _ hz1'
        have y2 := hat _ _ hz2'
        have y3 := hat _ _ hz3'
        have y4 := hat _ _ hz4'
        have hGlt : w.heap.size + 1 < wr.heap.size := (hown.lt _ rfl).2
        have q0 := not_frozen hown (q * 5)
        have q1 := not_frozen hown (q * 5 + 1)
        have q2 := not_frozen hown (q * 5 + 2)
        have q3 := not_frozen hown (q * 5 + 3)
        have q4 := not_frozen hown (q * 5 + 4)
        have HO := Hd hown
        have HFI := Hd hfill
        have HZ := Hd (And.intro hz0' (And.intro hz1' (And.intro hz2' (And.intro hz3' hz4'))))
        clear hat hz0' hz1' hz2' hz3' hz4' hown hfill hlen hv
        go_wp2_with fail
        go_roundg g
        case measure => omega
        case rel => exact ⟨q + 1, by omega, by go_num, stored_below HBB.out (Nat.le_succ _), vaside (stored_filled HB0.out HBB.out (Nat.le_succ _) HO.out HFI.out hqn HV.out hV0.out)⟩
   · have e6 : (k == 6) = false := by simpa using k6
     have e7 : (k == 7) = false := by simpa using k7
     have hk := Hd (kids_none k n s l m k6 k7)
     clear k6 k7
     go_enter Tryz.func67, Tryz.ntmps67
     go_wp2_with fail
     go_ret
     exact within_said (c := 0) (A := none) hk.out (fun j v hj => by simp [VL.get] at hj) HB.out
theorem kids_get_size {v x : VT} {j : Nat} (h : v.kids.get j = some x) : sizeV x + 1 ≤ sizeV v := by
 have := size_kids v
 have := sizeL_get h
 omega
theorem ret_int {a b : Int} (h : a = b) : Ending.returned (.int .i64 a) = .returned (.int .i64 b) := by rw [h]
theorem max_nat (a b : Nat) : max (a : Int) (b : Int) = ((max a b : Nat) : Int) := by omega
def DepC (v : VT) : Prop := ∀ (c0 c1 c2 c3 c4 : Value) (w : World) (B : Nat), B ≤ w.heap.size → VAt w B v c0 c1 c2 c3 c4 →
 Calls Tryz.prog 131 #[.agg #[c0, c1, c2, c3, c4]] w fun e w' => e = .returned (.int .i64 (depV v)) ∧ Below w.heap.size w w'
set_option maxRecDepth 100000 in
set_option maxHeartbeats 4000000 in
theorem depth_step (N : Nat) (hN : N + 1 ≤ 1100000) (H : ∀ u, sizeV u ≤ N → DepC u) : ∀ u, sizeV u ≤ N + 1 → DepC u := by
 intro u hu c0 c1 c2 c3 c4 w B hB hv
 have HS := Hd H
 have hW := within_any u (by omega)
 have hv0 := Hd hv
 have HB0 := Hd hB
 have hkg := Hd (fun (x : VT) (j : Nat) (h : u.kids.get j = some x) => kids_get_size h)
 have hks := Hd (size_kids u)
 have hls := Hd (len_size u.kids)
 obtain ⟨k, n, s, l, m⟩ := u
 have hdk := Hd (dep_kids k n s l m)
 have hd0 : Hid (¬ k = 6 → ¬ k = 7 → depV (.mk k n s l m) = 0) := Hd (fun h6 h7 => by rw [depV, if_neg h6, if_neg h7])
 generalize hU : VT.mk k n s l m = U at *
 have hv' := hv
 rw [← hU] at hv'
 unfold VAt at hv'
 obtain ⟨rfl, rfl, rfl, _, ⟨A, c, rfl, hl, hL⟩, A', c', rfl, hm, hM⟩ := hv'
 have HW := Hd hW
 have HU := Hd hu
 have hb0 : Below w.heap.size w (w.alloc (.cells #[.int .i64 k, .int .i64 n, .string s, .slice A l.len c, .slice A' m.len c'] 35)) := (Below.refl _ _).alloc (Nat.le_refl _) _
 have HB := Hd hb0
 clear H hB hv hW hL hM hu hU hb0
 obtain ⟨n6, h6⟩ : ∃ b, (k != 6) = b := ⟨_, rfl⟩
 obtain ⟨n7, h7⟩ : ∃ b, (k != 7) = b := ⟨_, rfl⟩
 by_cases hk : k = 6 ∨ k = 7
 · have hD := Hd (hdk.out hk)
   have hb : n6 = true → n7 = false := by
    intro e
    rw [e] at h6
    have : ¬ k = 6 := by simpa using h6
    have : k = 7 := by omega
    rw [← h7]; simp [this]
   have HK := Hd hk
   clear hk hd0
   cases n6
   rotate_left
   obtain rfl := hb rfl
   all_goals
    clear hb
    go_enter Tryz.func131, Tryz.ntmps131
    go_wp2_with fail
    refine (HW.out _ _ _ _ _ _ B (Nat.le_trans HB0.out HB.out.size) (VAt.below (HB.out.mono HB0.out) _ _ _ _ _ _ hv0.out)).mono ?_
    rintro e w1 ⟨A1, c1', rfl, hrow, hb1⟩
    have HB1 := Hd (HB.out.trans (hb1.mono HB.out.size))
    have HR := Hd hrow
    clear hrow hb1
    go_wp2_with fail
    go_loopg [3, 17] U.kids.len (fun g mo i wx => ∃ q : Nat, q + g = U.kids.len ∧ i = .int .i64 q ∧ mo = .int .i64 (depTo U.kids q) ∧ Below w.heap.size w wx ∧ Aside (RowV wx B U.kids A1))
    case atStart => exact ⟨0, by omega, rfl, by rw [depTo_zero]; rfl, HB1.out, vaside HR.out⟩
    case round =>
     obtain ⟨q, hq, rfl, rfl, hb, HA⟩ := hrel
     have HBB := Hd hb
     have HRR := Hd HA.out
     have hwr := hb.size
     clear hb HA HR HB1
     cases gk with
     | zero =>
       obtain rfl : q = U.kids.len := by omega
       have hsm := Nat.le_trans (depL_size U.kids) (Nat.le_of_succ_le (Nat.le_trans hks.out HU.out))
       rw [depTo_all]
       have hadd : (1 : Int) + (depL U.kids : Int) = ((depL U.kids + 1 : Nat) : Int) := by omega
       go_wp2_with fail
       go_ret
       exact ⟨ret_int (by rw [hD.out]; omega), HBB.out⟩
     | succ g =>
       have hqn : q < U.kids.len := by omega
       have hq9 : q < 1100000 := by have h1 := hks.out; have h2 := hls.out; have h3 := HU.out; omega
       have hqn' : (q : Int) < (U.kids.len : Int) := by omega
       obtain ⟨x, hx⟩ := VL.get_lt hqn
       have hxs := hkg.out x q hx
       have hnx := Hd (depTo_next hx)
       obtain ⟨b, o, d0, d1, d2, d3, d4, rfl, hblt, hF, hV⟩ := HRR.out q x hx
       have hBr := Nat.le_trans HB0.out hwr
       have C := fun (wx : World) (hx : Below wr.heap.size wr wx) => Hd (HS.out x (by have := HU.out; omega) d0 d1 d2 d3 d4 wx B (Nat.le_trans hBr hx.size) (VAt.below (hx.mono hBr) _ _ _ _ _ _ hV))
       obtain ⟨xk, xn, xs, xl, xm⟩ := x
       have hV' := hV
       unfold VAt at hV'
       obtain ⟨rfl, rfl, rfl, _, ⟨A3, c3', rfl, _, _⟩, A4, c4', rfl, _, _⟩ := hV'
       obtain ⟨f0, f1, f2, f3, f4⟩ := hF
       have hnew := Hd (fun o => (Below.refl wr.heap.size wr).alloc (Nat.le_refl _) o)
       have hmx := max_nat (depTo U.kids q) (depV (.mk xk xn xs xl xm))
       clear hV hx hxs
       go_wp2_with fail
       refine (C _ (hnew.out _)).out.mono ?_
       rintro e w2 ⟨rfl, hb2⟩
       have hb3 := (hnew.out _).trans (hb2.mono (Nat.le_of_lt (by simp)))
       have HB3 := Hd (HBB.out.trans (hb3.mono hwr))
       have HR3 := Hd (HRR.out.below hBr hb3)
       clear hb2 hb3 C f0 f1 f2 f3 f4
       go_wp2_with fail
       go_roundg g
       case measure => omega
       case rel => exact ⟨q + 1, by omega, by go_num, by rw [hnx.out], HB3.out, vaside HR3.out⟩
 · have hD := Hd (hd0.out (fun e => hk (Or.inl e)) (fun e => hk (Or.inr e)))
   have e6 : (k != 6) = true := by simp; omega
   have e7 : (k != 7) = true := by simp; omega
   clear hk hd0 h6 h7
   go_enter Tryz.func131, Tryz.ntmps131
   go_wp2_with fail
   go_ret
   exact ⟨ret_int (by rw [hD.out]; rfl), HB.out⟩
theorem depth_all : ∀ N, N ≤ 1100000 → ∀ u, sizeV u ≤ N → DepC u
 | 0, _, u, h => by cases u; rw [sizeV] at h; omega
 | N + 1, hN, u, h => depth_step N hN (depth_all N (by omega)) u h
theorem depth_any (u : VT) (h : sizeV u ≤ 1100000) : DepC u := depth_all 1100000 (Nat.le_refl _) u h
theorem len_zero (n : Nat) : ((n : Int) == 0) = (n == 0) := by
 cases n <;> rfl
set_option maxRecDepth 100000 in
set_option maxHeartbeats 4000000 in
theorem sound_any (k n : Int) (s : ByteArray) (l : VL) (m : VM) (c0 c1 c2 c3 c4 : Value) (w : World) (B : Nat) (hv : VAt w B (.mk k n s l m) c0 c1 c2 c3 c4) (hs : s.size ≤ 1100000) (hw : Laid5 w) :
   Calls Tryz.prog 194 #[.agg #[c0, c1, c2, c3, c4]] w fun e w' => e = .returned (.bool (soundB k n s.data.toList l.len m.len)) ∧ Below w.heap.size w w' := by
 unfold VAt at hv
 obtain ⟨rfl, rfl, rfl, _, ⟨A, c, rfl, hl, hL⟩, A', c', rfl, hm, hM⟩ := hv
 have hG := fun wx (hx : Laid5 wx) => good_any s wx hs hx.1
 have hN := fun wx => name_any s wx hs
 have hE := fun wx => venum_any s wx hs
 have hD := fun wx (hx : Laid5 wx) => vnumber_any s wx hs hx
 have hb0 : Below w.heap.size w (w.alloc (.cells #[.int .i64 k, .int .i64 n, .string s, .slice A l.len c, .slice A' m.len c'] 35)) := (Below.refl _ _).alloc (Nat.le_refl _) _
 have HB := Hd hb0
 have HW := Hd (hw.below hb0)
 obtain ⟨b1, h1⟩ : ∃ b, (n == 0) = b := ⟨_, rfl⟩
 obtain ⟨b2, h2⟩ : ∃ b, s.toList.isEmpty = b := ⟨_, rfl⟩
 obtain ⟨b3, h3⟩ : ∃ b, ((l.len : Int) == 0) = b := ⟨_, rfl⟩
 obtain ⟨b4, h4⟩ : ∃ b, ((m.len : Int) == 0) = b := ⟨_, rfl⟩
 obtain ⟨b5, h5⟩ : ∃ b, (n == 1) = b := ⟨_, rfl⟩
 obtain ⟨b6, h6⟩ : ∃ b, numB s.data.toList = b := ⟨_, rfl⟩
 obtain ⟨b7, h7⟩ : ∃ b, goodB s.data.toList = b := ⟨_, rfl⟩
 obtain ⟨b8, h8⟩ : ∃ b, enumB s.data.toList = b := ⟨_, rfl⟩
 obtain ⟨b9, h9⟩ : ∃ b, nameB s.data.toList = b := ⟨_, rfl⟩
 have g2 : s.data.toList.isEmpty = b2 := by rw [← Lib.toList_data]; exact h2
 have g3 := (len_zero l.len).symm.trans h3
 have g4 := (len_zero m.len).symm.trans h4
 rw [h6] at hD
 rw [h7] at hG
 rw [h8] at hE
 rw [h9] at hN
 have G := fun wx hx => Hd (hG wx hx)
 have N := fun wx => Hd (hN wx)
 have E := fun wx => Hd (hE wx)
 have D := fun wx hx => Hd (hD wx hx)
 clear hw hL hM hb0 hG hN hE hD
 by_cases k0 : k = 0
 · subst k0
   have hr : Hid (soundB 0 n s.data.toList l.len m.len = (b1 && b2 && b3 && b4)) := Hd (by rw [soundB, if_pos rfl, h1, g2, g3, g4])
   clear g2 g3 g4 h5 h6 h7 h8 h9
   cases b3 with
   | false =>
     cases b1 with
     | false =>
       go_enter Tryz.func194, Tryz.ntmps194
       go_wp2_with fail
       go_ret
       exact ⟨ret_bool (by rw [hr.out]; simp), HB.out⟩
     | true =>
       cases b2 with
       | false =>
         go_enter Tryz.func194, Tryz.ntmps194
         go_wp2_with fail
         go_ret
         exact ⟨ret_bool (by rw [hr.out]; simp), HB.out⟩
       | true =>
         go_enter Tryz.func194, Tryz.ntmps194
         go_wp2_with fail
         go_ret
         exact ⟨ret_bool (by rw [hr.out]; simp), HB.out⟩
   | true =>
     cases b1 with
     | false =>
       go_enter Tryz.func194, Tryz.ntmps194
       go_wp2_with fail
       go_ret
       exact ⟨ret_bool (by rw [hr.out]; simp), HB.out⟩
     | true =>
       cases b2 with
       | false =>
         go_enter Tryz.func194, Tryz.ntmps194
         go_wp2_with fail
         go_ret
         exact ⟨ret_bool (by rw [hr.out]; simp), HB.out⟩
       | true =>
         go_enter Tryz.func194, Tryz.ntmps194
         go_wp2_with fail
         go_ret
         exact ⟨ret_bool (by rw [hr.out]; simp), HB.out⟩
 by_cases k1 : k = 1
 · subst k1
   have hr : Hid (soundB 1 n s.data.toList l.len m.len = ((b1 || b5) && b2 && b3 && b4)) := Hd (by rw [soundB, if_neg (by omega), if_pos rfl, h1, h5, g2, g3, g4])
   clear g2 g3 g4 h6 h7 h8 h9
   cases b3 with
   | false =>
     cases b1 with
     | false =>
       cases b5 with
       | false =>
         go_enter Tryz.func194, Tryz.ntmps194
         go_wp2_with fail
         go_ret
         exact ⟨ret_bool (by rw [hr.out]; simp), HB.out⟩
       | true =>
         cases b2 with
         | false =>
           go_enter Tryz.func194, Tryz.ntmps194
           go_wp2_with fail
           go_ret
           exact ⟨ret_bool (by rw [hr.out]; simp), HB.out⟩
         | true =>
           go_enter Tryz.func194, Tryz.ntmps194
           go_wp2_with fail
           go_ret
           exact ⟨ret_bool (by rw [hr.out]; simp), HB.out⟩
     | true =>
       cases b2 with
       | false =>
         go_enter Tryz.func194, Tryz.ntmps194
         go_wp2_with fail
         go_ret
         exact ⟨ret_bool (by rw [hr.out]; simp), HB.out⟩
       | true =>
         go_enter Tryz.func194, Tryz.ntmps194
         go_wp2_with fail
         go_ret
         exact ⟨ret_bool (by rw [hr.out]; simp), HB.out⟩
   | true =>
     cases b1 with
     | false =>
       cases b5 with
       | false =>
         go_enter Tryz.func194, Tryz.ntmps194
         go_wp2_with fail
         go_ret
         exact ⟨ret_bool (by rw [hr.out]; simp), HB.out⟩
       | true =>
         cases b2 with
         | false =>
           go_enter Tryz.func194, Tryz.ntmps194
           go_wp2_with fail
           go_ret
           exact ⟨ret_bool (by rw [hr.out]; simp), HB.out⟩
         | true =>
           go_enter Tryz.func194, Tryz.ntmps194
           go_wp2_with fail
           go_ret
           exact ⟨ret_bool (by rw [hr.out]; simp), HB.out⟩
     | true =>
       cases b2 with
       | false =>
         go_enter Tryz.func194, Tryz.ntmps194
         go_wp2_with fail
         go_ret
         exact ⟨ret_bool (by rw [hr.out]; simp), HB.out⟩
       | true =>
         go_enter Tryz.func194, Tryz.ntmps194
         go_wp2_with fail
         go_ret
         exact ⟨ret_bool (by rw [hr.out]; simp), HB.out⟩
 by_cases k2 : k = 2
 · subst k2
   have hr : Hid (soundB 2 n s.data.toList l.len m.len = (b2 && b3 && b4)) := Hd (by rw [soundB, if_neg (by omega), if_neg (by omega), if_pos rfl, g2, g3, g4])
   clear g2 g3 g4 h1 h5 h6 h7 h8 h9
   cases b3 with
   | false =>
     cases b2 with
     | false =>
       go_enter Tryz.func194, Tryz.ntmps194
       go_wp2_with fail
       go_ret
       exact ⟨ret_bool (by rw [hr.out]; simp), HB.out⟩
     | true =>
       go_enter Tryz.func194, Tryz.ntmps194
       go_wp2_with fail
       go_ret
       exact ⟨ret_bool (by rw [hr.out]; simp), HB.out⟩
   | true =>
     cases b2 with
     | false =>
       go_enter Tryz.func194, Tryz.ntmps194
       go_wp2_with fail
       go_ret
       exact ⟨ret_bool (by rw [hr.out]; simp), HB.out⟩
     | true =>
       go_enter Tryz.func194, Tryz.ntmps194
       go_wp2_with fail
       go_ret
       exact ⟨ret_bool (by rw [hr.out]; simp), HB.out⟩
 by_cases k3 : k = 3
 · subst k3
   have hr : Hid (soundB 3 n s.data.toList l.len m.len = (b1 && b6 && b3 && b4)) := Hd (by rw [soundB, if_neg (by omega), if_neg (by omega), if_neg (by omega), if_pos rfl, h1, h6, g3, g4])
   clear g2 g3 g4 h2 h5 h7 h8 h9
   cases b3 with
   | false =>
     cases b1 with
     | false =>
       go_enter Tryz.func194, Tryz.ntmps194
       go_wp2_with (go_at_call 242; refine (D _ HW.out).out.mono ?_; rintro e w1 ⟨rfl, hb1⟩)
       go_ret
       exact ⟨ret_bool (by rw [hr.out]; simp), by first | exact HB.out | exact HB.out.trans (hb1.mono HB.out.size)⟩
     | true =>
       cases b6 with
       | false =>
         go_enter Tryz.func194, Tryz.ntmps194
         go_wp2_with (go_at_call 242; refine (D _ HW.out).out.mono ?_; rintro e w1 ⟨rfl, hb1⟩)
         go_ret
         exact ⟨ret_bool (by rw [hr.out]; simp), by first | exact HB.out | exact HB.out.trans (hb1.mono HB.out.size)⟩
       | true =>
         go_enter Tryz.func194, Tryz.ntmps194
         go_wp2_with (go_at_call 242; refine (D _ HW.out).out.mono ?_; rintro e w1 ⟨rfl, hb1⟩)
         go_ret
         exact ⟨ret_bool (by rw [hr.out]; simp), by first | exact HB.out | exact HB.out.trans (hb1.mono HB.out.size)⟩
   | true =>
     cases b1 with
     | false =>
       go_enter Tryz.func194, Tryz.ntmps194
       go_wp2_with (go_at_call 242; refine (D _ HW.out).out.mono ?_; rintro e w1 ⟨rfl, hb1⟩)
       go_ret
       exact ⟨ret_bool (by rw [hr.out]; simp), by first | exact HB.out | exact HB.out.trans (hb1.mono HB.out.size)⟩
     | true =>
       cases b6 with
       | false =>
         go_enter Tryz.func194, Tryz.ntmps194
         go_wp2_with (go_at_call 242; refine (D _ HW.out).out.mono ?_; rintro e w1 ⟨rfl, hb1⟩)
         go_ret
         exact ⟨ret_bool (by rw [hr.out]; simp), by first | exact HB.out | exact HB.out.trans (hb1.mono HB.out.size)⟩
       | true =>
         go_enter Tryz.func194, Tryz.ntmps194
         go_wp2_with (go_at_call 242; refine (D _ HW.out).out.mono ?_; rintro e w1 ⟨rfl, hb1⟩)
         go_ret
         exact ⟨ret_bool (by rw [hr.out]; simp), by first | exact HB.out | exact HB.out.trans (hb1.mono HB.out.size)⟩
 by_cases k4 : k = 4
 · subst k4
   have hr : Hid (soundB 4 n s.data.toList l.len m.len = (b1 && b7 && b3 && b4)) := Hd (by rw [soundB, if_neg (by omega), if_neg (by omega), if_neg (by omega), if_neg (by omega), if_pos rfl, h1, h7, g3, g4])
   clear g2 g3 g4 h2 h5 h6 h8 h9
   cases b3 with
   | false =>
     cases b1 with
     | false =>
       go_enter Tryz.func194, Tryz.ntmps194
       go_wp2_with (go_at_call 138; refine (G _ HW.out).out.mono ?_; rintro e w1 ⟨rfl, hb1⟩)
       go_ret
       exact ⟨ret_bool (by rw [hr.out]; simp), by first | exact HB.out | exact HB.out.trans (hb1.mono HB.out.size)⟩
     | true =>
       cases b7 with
       | false =>
         go_enter Tryz.func194, Tryz.ntmps194
         go_wp2_with (go_at_call 138; refine (G _ HW.out).out.mono ?_; rintro e w1 ⟨rfl, hb1⟩)
         go_ret
         exact ⟨ret_bool (by rw [hr.out]; simp), by first | exact HB.out | exact HB.out.trans (hb1.mono HB.out.size)⟩
       | true =>
         go_enter Tryz.func194, Tryz.ntmps194
         go_wp2_with (go_at_call 138; refine (G _ HW.out).out.mono ?_; rintro e w1 ⟨rfl, hb1⟩)
         go_ret
         exact ⟨ret_bool (by rw [hr.out]; simp), by first | exact HB.out | exact HB.out.trans (hb1.mono HB.out.size)⟩
   | true =>
     cases b1 with
     | false =>
       go_enter Tryz.func194, Tryz.ntmps194
       go_wp2_with (go_at_call 138; refine (G _ HW.out).out.mono ?_; rintro e w1 ⟨rfl, hb1⟩)
       go_ret
       exact ⟨ret_bool (by rw [hr.out]; simp), by first | exact HB.out | exact HB.out.trans (hb1.mono HB.out.size)⟩
     | true =>
       cases b7 with
       | false =>
         go_enter Tryz.func194, Tryz.ntmps194
         go_wp2_with (go_at_call 138; refine (G _ HW.out).out.mono ?_; rintro e w1 ⟨rfl, hb1⟩)
         go_ret
         exact ⟨ret_bool (by rw [hr.out]; simp), by first | exact HB.out | exact HB.out.trans (hb1.mono HB.out.size)⟩
       | true =>
         go_enter Tryz.func194, Tryz.ntmps194
         go_wp2_with (go_at_call 138; refine (G _ HW.out).out.mono ?_; rintro e w1 ⟨rfl, hb1⟩)
         go_ret
         exact ⟨ret_bool (by rw [hr.out]; simp), by first | exact HB.out | exact HB.out.trans (hb1.mono HB.out.size)⟩
 by_cases k5 : k = 5
 · subst k5
   have hr : Hid (soundB 5 n s.data.toList l.len m.len = (b1 && b8 && b3 && b4)) := Hd (by rw [soundB, if_neg (by omega), if_neg (by omega), if_neg (by omega), if_neg (by omega), if_neg (by omega), if_pos rfl, h1, h8, g3, g4])
   clear g2 g3 g4 h2 h5 h6 h7 h9
   cases b3 with
   | false =>
     cases b1 with
     | false =>
       go_enter Tryz.func194, Tryz.ntmps194
       go_wp2_with (go_at_call 243; refine (E _).out.mono ?_; rintro e w1 ⟨rfl, hb1⟩)
       go_ret
       exact ⟨ret_bool (by rw [hr.out]; simp), by first | exact HB.out | exact HB.out.trans (hb1.mono HB.out.size)⟩
     | true =>
       cases b8 with
       | false =>
         go_enter Tryz.func194, Tryz.ntmps194
         go_wp2_with (go_at_call 243; refine (E _).out.mono ?_; rintro e w1 ⟨rfl, hb1⟩)
         go_ret
         exact ⟨ret_bool (by rw [hr.out]; simp), by first | exact HB.out | exact HB.out.trans (hb1.mono HB.out.size)⟩
       | true =>
         go_enter Tryz.func194, Tryz.ntmps194
         go_wp2_with (go_at_call 243; refine (E _).out.mono ?_; rintro e w1 ⟨rfl, hb1⟩)
         go_ret
         exact ⟨ret_bool (by rw [hr.out]; simp), by first | exact HB.out | exact HB.out.trans (hb1.mono HB.out.size)⟩
   | true =>
     cases b1 with
     | false =>
       go_enter Tryz.func194, Tryz.ntmps194
       go_wp2_with (go_at_call 243; refine (E _).out.mono ?_; rintro e w1 ⟨rfl, hb1⟩)
       go_ret
       exact ⟨ret_bool (by rw [hr.out]; simp), by first | exact HB.out | exact HB.out.trans (hb1.mono HB.out.size)⟩
     | true =>
       cases b8 with
       | false =>
         go_enter Tryz.func194, Tryz.ntmps194
         go_wp2_with (go_at_call 243; refine (E _).out.mono ?_; rintro e w1 ⟨rfl, hb1⟩)
         go_ret
         exact ⟨ret_bool (by rw [hr.out]; simp), by first | exact HB.out | exact HB.out.trans (hb1.mono HB.out.size)⟩
       | true =>
         go_enter Tryz.func194, Tryz.ntmps194
         go_wp2_with (go_at_call 243; refine (E _).out.mono ?_; rintro e w1 ⟨rfl, hb1⟩)
         go_ret
         exact ⟨ret_bool (by rw [hr.out]; simp), by first | exact HB.out | exact HB.out.trans (hb1.mono HB.out.size)⟩
 by_cases k6 : k = 6
 · subst k6
   have hr : Hid (soundB 6 n s.data.toList l.len m.len = (b1 && b2 && b4)) := Hd (by rw [soundB, if_neg (by omega), if_neg (by omega), if_neg (by omega), if_neg (by omega), if_neg (by omega), if_neg (by omega), if_pos rfl, h1, g2, g4])
   clear g2 g3 g4 h5 h6 h7 h8 h9
   cases b3 with
   | false =>
     cases b1 with
     | false =>
       go_enter Tryz.func194, Tryz.ntmps194
       go_wp2_with fail
       go_ret
       exact ⟨ret_bool (by rw [hr.out]; simp), HB.out⟩
     | true =>
       cases b2 with
       | false =>
         go_enter Tryz.func194, Tryz.ntmps194
         go_wp2_with fail
         go_ret
         exact ⟨ret_bool (by rw [hr.out]; simp), HB.out⟩
       | true =>
         go_enter Tryz.func194, Tryz.ntmps194
         go_wp2_with fail
         go_ret
         exact ⟨ret_bool (by rw [hr.out]; simp), HB.out⟩
   | true =>
     cases b1 with
     | false =>
       go_enter Tryz.func194, Tryz.ntmps194
       go_wp2_with fail
       go_ret
       exact ⟨ret_bool (by rw [hr.out]; simp), HB.out⟩
     | true =>
       cases b2 with
       | false =>
         go_enter Tryz.func194, Tryz.ntmps194
         go_wp2_with fail
         go_ret
         exact ⟨ret_bool (by rw [hr.out]; simp), HB.out⟩
       | true =>
         go_enter Tryz.func194, Tryz.ntmps194
         go_wp2_with fail
         go_ret
         exact ⟨ret_bool (by rw [hr.out]; simp), HB.out⟩
 by_cases k7 : k = 7
 · subst k7
   have hr : Hid (soundB 7 n s.data.toList l.len m.len = (b1 && b2 && b3)) := Hd (by rw [soundB, if_neg (by omega), if_neg (by omega), if_neg (by omega), if_neg (by omega), if_neg (by omega), if_neg (by omega), if_neg (by omega), if_pos rfl, h1, g2, g3])
   clear g2 g3 g4 h5 h6 h7 h8 h9
   cases b3 with
   | false =>
     cases b1 with
     | false =>
       go_enter Tryz.func194, Tryz.ntmps194
       go_wp2_with fail
       go_ret
       exact ⟨ret_bool (by rw [hr.out]; simp), HB.out⟩
     | true =>
       cases b2 with
       | false =>
         go_enter Tryz.func194, Tryz.ntmps194
         go_wp2_with fail
         go_ret
         exact ⟨ret_bool (by rw [hr.out]; simp), HB.out⟩
       | true =>
         go_enter Tryz.func194, Tryz.ntmps194
         go_wp2_with fail
         go_ret
         exact ⟨ret_bool (by rw [hr.out]; simp), HB.out⟩
   | true =>
     cases b1 with
     | false =>
       go_enter Tryz.func194, Tryz.ntmps194
       go_wp2_with fail
       go_ret
       exact ⟨ret_bool (by rw [hr.out]; simp), HB.out⟩
     | true =>
       cases b2 with
       | false =>
         go_enter Tryz.func194, Tryz.ntmps194
         go_wp2_with fail
         go_ret
         exact ⟨ret_bool (by rw [hr.out]; simp), HB.out⟩
       | true =>
         go_enter Tryz.func194, Tryz.ntmps194
         go_wp2_with fail
         go_ret
         exact ⟨ret_bool (by rw [hr.out]; simp), HB.out⟩
 by_cases k8 : k = 8
 · subst k8
   have hr : Hid (soundB 8 n s.data.toList l.len m.len = (b1 && b9 && b3 && b4)) := Hd (by rw [soundB, if_neg (by omega), if_neg (by omega), if_neg (by omega), if_neg (by omega), if_neg (by omega), if_neg (by omega), if_neg (by omega), if_neg (by omega), if_pos rfl, h1, h9, g3, g4])
   clear g2 g3 g4 h2 h5 h6 h7 h8
   cases b3 with
   | false =>
     cases b1 with
     | false =>
       go_enter Tryz.func194, Tryz.ntmps194
       go_wp2_with (go_at_call 130; refine (N _).out.mono ?_; rintro e w1 ⟨rfl, rfl⟩)
       go_ret
       exact ⟨ret_bool (by rw [hr.out]; simp), HB.out⟩
     | true =>
       cases b9 with
       | false =>
         go_enter Tryz.func194, Tryz.ntmps194
         go_wp2_with (go_at_call 130; refine (N _).out.mono ?_; rintro e w1 ⟨rfl, rfl⟩)
         go_ret
         exact ⟨ret_bool (by rw [hr.out]; simp), HB.out⟩
       | true =>
         go_enter Tryz.func194, Tryz.ntmps194
         go_wp2_with (go_at_call 130; refine (N _).out.mono ?_; rintro e w1 ⟨rfl, rfl⟩)
         go_ret
         exact ⟨ret_bool (by rw [hr.out]; simp), HB.out⟩
   | true =>
     cases b1 with
     | false =>
       go_enter Tryz.func194, Tryz.ntmps194
       go_wp2_with (go_at_call 130; refine (N _).out.mono ?_; rintro e w1 ⟨rfl, rfl⟩)
       go_ret
       exact ⟨ret_bool (by rw [hr.out]; simp), HB.out⟩
     | true =>
       cases b9 with
       | false =>
         go_enter Tryz.func194, Tryz.ntmps194
         go_wp2_with (go_at_call 130; refine (N _).out.mono ?_; rintro e w1 ⟨rfl, rfl⟩)
         go_ret
         exact ⟨ret_bool (by rw [hr.out]; simp), HB.out⟩
       | true =>
         go_enter Tryz.func194, Tryz.ntmps194
         go_wp2_with (go_at_call 130; refine (N _).out.mono ?_; rintro e w1 ⟨rfl, rfl⟩)
         go_ret
         exact ⟨ret_bool (by rw [hr.out]; simp), HB.out⟩
 have hr : Hid (soundB k n s.data.toList l.len m.len = false) := Hd (by rw [soundB, if_neg k0, if_neg k1, if_neg k2, if_neg k3, if_neg k4, if_neg k5, if_neg k6, if_neg k7, if_neg k8])
 have e0 : (k == 0) = false := by simpa using k0
 have e1 : (k == 1) = false := by simpa using k1
 have e2 : (k == 2) = false := by simpa using k2
 have e3 : (k == 3) = false := by simpa using k3
 have e4 : (k == 4) = false := by simpa using k4
 have e5 : (k == 5) = false := by simpa using k5
 have e6 : (k == 6) = false := by simpa using k6
 have e7 : (k == 7) = false := by simpa using k7
 have e8 : (k == 8) = false := by simpa using k8
 clear g2 g3 g4 h1 h2 h5 h6 h7 h8 h9 k0 k1 k2 k3 k4 k5 k6 k7 k8
 cases b3
 all_goals
   go_enter Tryz.func194, Tryz.ntmps194
   go_wp2_with fail
   go_ret
   exact ⟨ret_bool (by rw [hr.out]), HB.out⟩
theorem check_two {p : List UInt8 → Bool} {k n : Int} {s : ByteArray} {l : VL} {m : VM} {b1 b2 : Bool} (h1 : soundB k n s.data.toList l.len m.len = b1) (h2 : namesB p m = b2) : checkV p (.mk k n s l m) = (b1 && b2) := by
 rw [checkV, h1, h2]
theorem wpList_append_nil {P : Program} {w : World} {ops : Array Oper} {rest : List Oper} {o : Oper} {a : Act} {Q : Exit → Act → World → Prop} (hgd : o.guard = none) (s x : Operand) (t : TypeId)
  (ho : o.op = .call { callee := .builtin .append, args := #[s, x], argTypes := #[t, t] })
  (base : Nat) (e : TypeId) (i : TypeInfo) (size : Nat) (ht : P.underlying t = some (.slice e)) (hi : P.info? e = some i)
  (v : Value) (n c : Nat) (xs : List Value) (hs : a.eval s = v) (hown : w.ownsRow base e size v n xs) (hx : a.eval x = .slice none 0 c)
  (h : wpList P ops Q rest (a.put o.dst v) w) : wpList P ops Q (o :: rest) a w := by
 refine wpList_plain hgd fun K hK => ?_
 have hrun : (Builtin.append_ #[t, t] o.type #[v, .slice none 0 c]).run P w = .ok v w := by
  rcases hown.2 with ⟨rfl, rfl⟩ | ⟨g, cap, cur, rfl, _, _, hnc, _⟩
  · simp [Builtin.append_, run_underlying ht, sizeOf, typeInfo, hi, Builtin.lenOf, Builtin.firstCells]
  · simp [Builtin.append_, run_underlying ht, sizeOf, typeInfo, hi, Builtin.lenOf, Builtin.firstCells, hnc, storeCells]
 unfold Oper.wp
 simp [execOp, ho, resolve, invoke, builtin, hs, hx, hrun, Result.andThen]
 exact hK _ _ h
theorem RowV.none {w : World} {B : Nat} {l : VL} (h : RowV w B l none) : l = .nil := by
 cases l with
 | nil => rfl
 | cons v t => obtain ⟨_, _, _, _, _, _, _, hA, _⟩ := h 0 v rfl; cases hA
theorem RowV.one {w : World} {B b : Nat} {v : VT} {c0 c1 c2 c3 c4 : Value} (hb : b < w.heap.size) (hf : Five w b 0 c0 c1 c2 c3 c4) (hv : VAt w B v c0 c1 c2 c3 c4) : RowV w B (.cons v .nil) (some ⟨b, 0, .none⟩) := fun j x hj => by
 match j, hj with
 | 0, hj =>
   have : v = x := by simpa [VL.get] using hj
   subst this
   exact ⟨b, 0, c0, c1, c2, c3, c4, rfl, hb, by rw [Nat.zero_mul, Nat.add_zero]; exact hf, hv⟩
 | j + 1, hj => simp [VL.get] at hj
theorem level_next {wo wi w4 w5 : World} {B n : Nat} {V : Value} {xs : List Value} (hBo : B ≤ wo.heap.size) (hoi : Below wo.heap.size wo wi) (hi4 : Below wi.heap.size wi w4) (hown : wi.ownsRow wo.heap.size 35 5 V n xs) (hg : w4.grownBy w5 V.ownBlock) :
  Below wo.heap.size wo w5 ∧ Below B wi w5 ∧ Below B w4 w5 := by
 have h1 := hoi.trans (hi4.mono hoi.size)
 have hr : ∀ k, V.ownBlock = some k → wo.heap.size ≤ k := fun k hk => (hown.lt k hk).1
 have hB4 : B ≤ w4.heap.size := Nat.le_trans hBo h1.size
 exact ⟨h1.grown hg h1.size hr, (hi4.mono (Nat.le_trans hBo hoi.size)).grown hg hB4 (fun k hk => Nat.le_trans hBo (hr k hk)), (Below.refl B w4).grown hg hB4 (fun k hk => Nat.le_trans hBo (hr k hk))⟩
theorem five_at_new (w : World) (a0 a1 a2 a3 a4 : Value) (t : TypeId) {n : Nat} (hn : n = w.heap.size) : Five (w.alloc (.cells #[a0, a1, a2, a3, a4] t)) n 0 a0 a1 a2 a3 a4 := by
 subst hn
 exact ⟨by rw [World.cell?_alloc_at _ _ _ _ rfl]; rfl, by rw [World.cell?_alloc_at _ _ _ _ rfl]; rfl, by rw [World.cell?_alloc_at _ _ _ _ rfl]; rfl, by rw [World.cell?_alloc_at _ _ _ _ rfl]; rfl, by rw [World.cell?_alloc_at _ _ _ _ rfl]; rfl⟩
set_option maxRecDepth 100000 in
set_option maxHeartbeats 8000000 in
theorem fits_any (fn : Nat) (p : List UInt8 → Bool) (hp : TestC fn p) (v : VT) (hz : sizeV v ≤ 1100000) (c0 c1 c2 c3 c4 : Value) (w : World) (B : Nat) (hB : B ≤ w.heap.size) (hv : VAt w B v c0 c1 c2 c3 c4) (hw : Laid5 w) :
  Calls Tryz.prog 129 #[.agg #[c0, c1, c2, c3, c4], .func (.func fn) #[] #[]] w fun e w' => e = .returned (.bool (fitV p v)) ∧ Below w.heap.size w w' := by
 have HP := Hd hp
 have HB0 := Hd hB
 have HV := Hd hv
 have HW := Hd hw
 have HZ := Hd hz
 have hsz : Hid (sizeV v = sizeL (.cons v .nil)) := Hd (by rw [sizeL, sizeL]; omega)
 obtain ⟨k, n, s, l, m⟩ := v
 generalize hU : VT.mk k n s l m = U at *
 rw [← hU] at hv
 unfold VAt at hv
 obtain ⟨rfl, rfl, rfl, _, ⟨A, c, rfl, hl, hL⟩, A', c', rfl, hm, hM⟩ := hv
 obtain ⟨i0, hi, hz0, hz1, hz2⟩ := info_parts info_val
 clear hL hM hp hB hw hz hU
 go_enter Tryz.func129, Tryz.ntmps129
 go_wp2
 go_step3
 go_wp2_with fail
 go_step3
 go_wp2_with fail
 have hb1 : Below w.heap.size w (w.alloc (.cells #[.int .i64 k, .int .i64 n, .string s, .slice A l.len c, .slice A' m.len c'] 35)) := (Below.refl _ _).alloc (Nat.le_refl _) _
 have HB2 := Hd (hb1.alloc (by simp) (.cells #[.int .i64 k, .int .i64 n, .string s, .slice A l.len c, .slice A' m.len c'] 35))
 have HR2 := Hd (RowV.one (v := U) (by simp) (five_at_new (w.alloc (.cells #[.int .i64 k, .int .i64 n, .string s, .slice A l.len c, .slice A' m.len c'] 35)) _ _ _ _ _ 35 (n := w.heap.size + 1) (by simp)) (VAt.below (HB2.out.mono HB0.out) _ _ _ _ _ _ HV.out))
 clear hb1
 go_loopg [5, 6] (sizeV U) (fun g ft lev wx => ∃ (lv : VL) (Al : Option Addr) (cl : Nat), sizeL lv ≤ g ∧ lev = .slice Al lv.len cl ∧ ft = .bool true ∧ g ≤ 1100000 ∧ Below w.heap.size w wx ∧ Aside (RowV wx B lv Al ∧ fitL p lv = fitV p U))
 case atStart => exact ⟨.cons U .nil, _, _, by rw [← hsz.out]; exact Nat.le_refl _, rfl, rfl, HZ.out, HB2.out, vaside ⟨HR2.out, by rw [fitL, fitL]; simp⟩⟩
 case round =>
  obtain ⟨lv, Al, cl, hsl, rfl, rfl, hg9, hb, HA⟩ := hrel
  have HBB := Hd hb
  have HRR := Hd HA.1
  have HFF := Hd HA.2
  have hwr := hb.size
  have hlv := len_size lv
  clear hb HA HB2 HR2
  by_cases h0 : lv.len = 0
  · have hG : Hid (fitV p U = true) := Hd (by rw [← HFF.out, VL.nil_of_len h0]; rfl)
    rw [h0]
    go_wp2_with fail
    simp only [Exit.noGoto_ret]
    go_ret
    exact ⟨ret_bool hG.out.symm, HBB.out⟩
  · have h0' : (0 : Int) < (lv.len : Int) := by omega
    have h0n : 0 < lv.len := by omega
    have hBr := Nat.le_trans HB0.out hwr
    go_wp2_with fail
    go_loopg [5, 7, 17] lv.len (fun g2 ft nxt i wx => ∃ (q : Nat) (xs : List Value), q + g2 = lv.len ∧ i = .int .i64 q ∧ ft = .bool true ∧ wx.ownsRow wr.heap.size 35 5 nxt (kidsTo lv q).len xs ∧ Below wr.heap.size wr wx ∧ Aside (ValsA wx B (kidsTo lv q) xs ∧ checkTo p lv q = true))
    case atStart => exact ⟨0, [], by omega, rfl, rfl, by rw [kidsTo_zero]; exact World.ownsRow_nil _ _ _ _, Below.refl _ _, vaside ⟨by rw [kidsTo_zero]; rfl, checkTo_zero _ _⟩⟩
    case round =>
     obtain ⟨q, xs, hq, rfl, rfl, hown, hb2, HA2⟩ := hrel
     obtain ⟨An, cn, rfl⟩ := shape_own hown
     have HO := Hd hown
     have HX := Hd HA2.1
     have HC := Hd HA2.2
     have HBi := Hd hb2
     have hwx := hb2.size
     have HBw := Hd (HBB.out.trans (hb2.mono hwr))
     have HRx := Hd (HRR.out.below hBr hb2)
     have HWx := Hd (HW.out.below HBw.out)
     clear hown HA2 hb2
     cases gk with
     | zero =>
       obtain rfl : q = lv.len := by omega
       have hO2 := HO.out
       rw [kidsTo_all] at hO2
       obtain ⟨A6, c6, he6, hrow6⟩ := row_owned hO2 (by have h := HX.out; rwa [kidsTo_all] at h)
       have HR6 := Hd hrow6
       have hlev := Hd (size_level lv)
       have hfl := Hd (fit_level p lv)
       have hck : Hid (checkL p lv = true) := Hd (by rw [← checkTo_all]; exact HC.out)
       rw [kidsTo_all, he6]
       clear hO2 hrow6 he6 HO HX
       go_wp2_with fail
       go_roundg (sizeL (kidsL lv))
       case measure => have := hlev.out; omega
       case rel => exact ⟨kidsL lv, A6, c6, Nat.le_refl _, rfl, rfl, by have := hlev.out; omega, HBw.out, vaside ⟨HR6.out, by rw [← HFF.out, hfl.out, hck.out]; simp⟩⟩
     | succ g3 =>
       have hqn : q < lv.len := by omega
       have hqn' : (q : Int) < (lv.len : Int) := by omega
       obtain ⟨x, hx⟩ := VL.get_lt hqn
       have hxs := Nat.le_trans (sizeL_get hx) (Nat.le_trans hsl hg9)
       obtain ⟨b, o, d0, d1, d2, d3, d4, rfl, hblt, hF, hV⟩ := HRx.out q x hx
       have HXS := Hd hxs
       have hnk := Hd (kidsTo_next hx)
       have hnc := Hd (checkTo_next p hx)
       have hno := Hd (check_no p hx)
       have HWI := Hd (within_any x hxs)
       have hxk := Hd (size_kids x)
       have hV0 := Hd hV
       obtain ⟨xk, xn, xs2, xl, xm⟩ := x
       have hxm : Hid (sizeM xm ≤ 1100000) := Hd (by rw [sizeV] at hxs; omega)
       have hxz : xs2.size ≤ 1100000 := by rw [sizeV] at hxs; omega
       have hct := Hd (fun b1 b2 => check_two (p := p) (k := xk) (n := xn) (s := xs2) (l := xl) (m := xm) (b1 := b1) (b2 := b2))
       unfold VAt at hV
       obtain ⟨rfl, rfl, rfl, _, ⟨A3, c3', rfl, _, _⟩, A4, c4', rfl, hm4, hM4⟩ := hV
       obtain ⟨f0, f1, f2, f3, f4⟩ := hF
       have hnew := Hd ((Below.refl wr.heap.size wr).alloc (Nat.le_refl _) (.cells #[.int .i64 xk, .int .i64 xn, .string xs2, .slice A3 xl.len c3', .slice A4 xm.len c4'] 35))
       have HM4 := Hd hM4
       have hBx := Nat.le_trans hBr hwx
       have HS := Hd (sound_any xk xn xs2 xl xm _ _ _ _ _ _ B (VAt.below (hnew.out.mono hBx) _ _ _ _ _ _ hV0.out) hxz (HWx.out.below hnew.out))
       have hF5 := Hd (five_at_new wr (.int .i64 xk) (.int .i64 xn) (.string xs2) (.slice A3 xl.len c3') (.slice A4 xm.len c4') 35 rfl)
       have hsw : (wr.alloc (.cells #[.int .i64 xk, .int .i64 xn, .string xs2, .slice A3 xl.len c3', .slice A4 xm.len c4'] 35)).heap.size = wr.heap.size + 1 := by simp
       have HSW := Hd hsw
       clear hM4 hx hxs hsw
       cases hs : soundB xk xn xs2.data.toList xl.len xm.len with
       | false =>
         have hr : Hid (fitV p U = false) := Hd (by rw [← HFF.out]; exact hno.out (by rw [checkV, hs]; rfl))
         rw [hs] at HS
         clear hs
         go_wp2_with fail
         refine HS.out.mono ?_
         rintro e w2 ⟨rfl, hb3⟩
         have HB3 := Hd (HBw.out.trans ((hnew.out.trans (hb3.mono (by rw [HSW.out]; omega))).mono HBw.out.size))
         clear hb3
         go_wp2_with fail
         simp only [Exit.noGoto_ret]
         go_ret
         exact ⟨ret_bool hr.out.symm, HB3.out⟩
       | true =>
         rw [hs] at HS
         go_wp2_with fail
         refine HS.out.mono ?_
         rintro e w2 ⟨rfl, hb3⟩
         have hb4 := hnew.out.trans (hb3.mono (by rw [HSW.out]; omega))
         have HB4 := Hd hb4
         have hs2 := hb4.size
         have hF2 := hF5.out.below hb3 (by rw [HSW.out]; omega)
         have HNM := Hd (named_any fn p HP.out xm A4 c4' w2 B (Nat.le_trans hBx hs2) hm4 (MAt.below (hb4.mono hBx) _ _ _ HM4.out) hxm.out (HWx.out.below hb4))
         have hlt2 : wr.heap.size < w2.heap.size := by have := hb3.size; rw [HSW.out] at this; omega
         have hF2' := Hd hF2
         obtain ⟨e0, e1, e2, e3, e4⟩ := hF2
         clear hb3 hb4 HS
         cases hnm : namesB p xm with
         | false =>
           have hr : Hid (fitV p U = false) := Hd (by rw [← HFF.out]; exact hno.out (by rw [hct.out _ _ hs hnm]; rfl))
           rw [hnm] at HNM
           clear hs hnm
           go_wp2_with fail
           refine HNM.out.mono ?_
           rintro e w3 ⟨rfl, hb5⟩
           have HB5 := Hd (HBw.out.trans ((HB4.out.trans (hb5.mono hs2)).mono HBw.out.size))
           clear hb5 e0 e1 e2 e3 e4
           go_wp2_with fail
           simp only [Exit.noGoto_ret]
           go_ret
           exact ⟨ret_bool hr.out.symm, HB5.out⟩
         | true =>
           have hcx : Hid (checkV p (.mk xk xn xs2 xl xm) = true) := Hd (by rw [hct.out _ _ hs hnm]; rfl)
           rw [hnm] at HNM
           clear hs hnm
           go_wp2_with fail
           refine HNM.out.mono ?_
           rintro e w3 ⟨rfl, hb5⟩
           have hb6 := HB4.out.trans (hb5.mono hs2)
           have HB6 := Hd hb6
           have hs3 := hb6.size
           obtain ⟨y0, y1, y2, y3, y4⟩ := hF2'.out.below hb5 hlt2
           clear hb5 hb6 e0 e1 e2 e3 e4 HNM
           go_wp2_with fail
           refine (HWI.out _ _ _ _ _ _ B (Nat.le_trans hBx hs3) (VAt.below (HB6.out.mono hBx) _ _ _ _ _ _ hV0.out)).mono ?_
           rintro e w4 ⟨A5, c5, rfl, hrow, hb7⟩
           have HB7 := Hd (HB6.out.trans (hb7.mono hs3))
           have HR5 := Hd hrow
           clear hrow hb7 y0 y1 y2 y3 y4 f0 f1 f2 f3 f4
           cases A5 with
           | none =>
             have hkn := HR5.out.none
             have hk0 : Hid (kidsTo lv (q + 1) = kidsTo lv q) := Hd (by rw [hnk.out, hkn, VL.app_nil])
             have hkl : (VT.mk xk xn xs2 xl xm).kids.len = 0 := by rw [hkn]; rfl
             rw [hkl]
             have HO4 := Hd (own_low HO.out HB7.out)
             clear hkn hkl
             go_wp2_with (at_builtin; refine wpList_append_nil rfl _ _ 32 rfl _ 35 i0 5 Tryz.underlying32 hi _ _ c5 xs rfl HO4.out rfl ?_)
             go_roundg g3
             case measure => omega
             case rel => exact ⟨q + 1, xs, by omega, by go_num, rfl, by rw [hk0.out]; exact HO4.out, HBi.out.trans (HB7.out.mono hwx), vaside ⟨by rw [hk0.out]; exact ValsA.below (HB7.out.mono hBx) HX.out, by rw [hnc.out, HC.out, hcx.out]; rfl⟩⟩
           | some a =>
             obtain ⟨news, hval, hat⟩ := HR5.out.vals
             have hnl := hval.len
             have hn1 := hval.one
             have hkl : (VT.mk xk xn xs2 xl xm).kids.len ≤ 1100000 := by have h0 := HXS.out; have h1 := hxk.out; have h2 := len_size (VT.mk xk xn xs2 xl xm).kids; omega
             have hql : (kidsTo lv q).len ≤ 1100000 := by have h3 := Nat.le_trans hsl hg9; have h1 := kidsTo_size lv q; have h2 := len_size (kidsTo lv q); omega
             have HO4 := Hd (own_low HO.out HB7.out)
             have HVN := Hd hval
             have hB4 := Nat.le_trans hBx HB7.out.size
             have hwo := Nat.le_trans hwx HB7.out.size
             clear hval
             go_wp2_with (at_builtin; refine wpList_append_own _ rfl _ _ 32 rfl _ 35 i0 (.agg #[.int .i64 0, .int .i64 0, .string ⟨#[]⟩, .slice none 0 0, .slice none 0 0]) 5 80 Tryz.underlying32 hi hz0 hz1 hz2 rfl (by decide) _ _ xs rfl HO4.out a _ c5 news rfl hnl hat hn1 (by unfold maxLen; omega) (by omega) hwo ?_; intro v5 w5 hown5 hgr5 _; obtain ⟨A8, c8, rfl⟩ := shape_own hown5; have HO5 := Hd hown5; have HG5 := Hd hgr5; clear hown5 hgr5)
             have hbl := Hd (level_next hBr HBi.out HB7.out HO.out HG5.out)
             go_roundg g3
             case measure => omega
             case rel => exact ⟨q + 1, xs ++ news, by omega, by go_num, rfl, by rw [hnk.out, VL.len_app]; exact HO5.out, hbl.out.1, vaside ⟨by rw [hnk.out]; exact (ValsA.below hbl.out.2.1 HX.out).app (ValsA.below hbl.out.2.2 HVN.out), by rw [hnc.out, HC.out, hcx.out]; rfl⟩⟩
theorem test_name : TestC 130 nameB :=
 ⟨Go.Proofs.enters_of Tryz.func130 (by kernel_rfl) rfl, fun s w hs _ => (name_any s w hs).mono (by rintro e w' ⟨he, rfl⟩; exact ⟨he, Below.refl _ _⟩)⟩
def plainB (v : VT) : Bool := fitV nameB v && decide (depV v ≤ 16)
set_option maxRecDepth 100000 in
theorem vplain_any (v : VT) (hz : sizeV v ≤ 1100000) (c0 c1 c2 c3 c4 : Value) (w : World) (B : Nat) (hB : B ≤ w.heap.size) (hv : VAt w B v c0 c1 c2 c3 c4) (hw : Laid5 w) :
   Calls Tryz.prog 56 #[.agg #[c0, c1, c2, c3, c4]] w fun e w' => e = .returned (.bool (plainB v)) ∧ Below w.heap.size w w' := by
 have hD := depth_any v hz
 obtain ⟨k, n, s, l, m⟩ := v
 generalize hU : VT.mk k n s l m = U at *
 have HV := Hd hv
 rw [← hU] at hv
 unfold VAt at hv
 obtain ⟨rfl, rfl, rfl, _, ⟨A, c, rfl, hl, hL⟩, A', c', rfl, hm, hM⟩ := hv
 have hb1 := Hd ((Below.refl w.heap.size w).alloc (Nat.le_refl _) (.cells #[.int .i64 k, .int .i64 n, .string s, .slice A l.len c, .slice A' m.len c'] 35))
 have HF := Hd (fits_any _ _ test_name U hz _ _ _ _ _ _ B (Nat.le_trans hB hb1.out.size) (VAt.below (hb1.out.mono hB) _ _ _ _ _ _ HV.out) (hw.below hb1.out))
 have HDD := Hd hD
 have HB0 := Hd hB
 have hF5 := Hd (five_at_new w (.int .i64 k) (.int .i64 n) (.string s) (.slice A l.len c) (.slice A' m.len c') 35 rfl)
 have hsw : Hid ((w.alloc (.cells #[.int .i64 k, .int .i64 n, .string s, .slice A l.len c, .slice A' m.len c'] 35)).heap.size = w.heap.size + 1) := Hd (by simp)
 have hpl : Hid (plainB U = (fitV nameB U && decide (depV U ≤ 16))) := Hd rfl
 have hdz := Hd (Nat.le_trans (dep_size U) hz)
 clear hL hM hU hw hz hD hB
 cases hf : fitV nameB U with
 | false =>
   rw [hf] at HF hpl
   clear hf
   go_enter Tryz.func56, Tryz.ntmps56
   go_wp2_with fail
   refine HF.out.mono ?_
   rintro e w2 ⟨rfl, hb2⟩
   have HB2 := Hd (hb1.out.trans (hb2.mono hb1.out.size))
   clear hb2
   go_wp2_with fail
   go_ret
   exact ⟨ret_bool (by rw [hpl.out]; rfl), HB2.out⟩
 | true =>
   rw [hf] at HF hpl
   clear hf
   go_enter Tryz.func56, Tryz.ntmps56
   go_wp2_with fail
   refine HF.out.mono ?_
   rintro e w2 ⟨rfl, hb2⟩
   have hb3 := hb1.out.trans (hb2.mono hb1.out.size)
   have HB2 := Hd hb3
   have hs2 := hb3.size
   obtain ⟨e0, e1, e2, e3, e4⟩ := hF5.out.below hb2 (by rw [hsw.out]; omega)
   clear hb2 hb3
   go_wp2_with fail
   refine (HDD.out _ _ _ _ _ _ B (Nat.le_trans HB0.out hs2) (VAt.below (HB2.out.mono HB0.out) _ _ _ _ _ _ HV.out)).mono ?_
   rintro e w3 ⟨rfl, hb4⟩
   have HB3 := Hd (HB2.out.trans (hb4.mono hs2))
   clear hb4 e0 e1 e2 e3 e4
   obtain ⟨d, hd⟩ : ∃ d, depV U = d := ⟨_, rfl⟩
   rw [hd] at hpl hdz ⊢
   clear hd
   by_cases h16 : d ≤ 16
   · have h16' : (d : Int) ≤ 16 := by omega
     have hr : Hid (plainB U = true) := Hd (by rw [hpl.out]; simpa using h16)
     go_wp2_with fail
     go_ret
     exact ⟨ret_bool (by rw [hr.out]; first | rfl | (simp; done) | (simp; omega) | skip), HB3.out⟩
   · have h16' : ¬ (d : Int) ≤ 16 := by omega
     have hr : Hid (plainB U = false) := Hd (by rw [hpl.out]; simpa using h16)
     go_wp2_with fail
     go_ret
     exact ⟨ret_bool (by rw [hr.out]; first | rfl | (simp; done) | (simp; omega) | skip), HB3.out⟩
def cellsT : List (Int × ByteArray) → List Value
 | [] => []
 | t :: ts => .int .i64 t.1 :: .string t.2 :: cellsT ts
theorem cellsT_len : ∀ ts, (cellsT ts).length = ts.length * 2
 | [] => rfl
 | t :: ts => by simp only [cellsT, List.length_cons, cellsT_len ts]; omega
theorem cellsT_app : ∀ ts us, cellsT (ts ++ us) = cellsT ts ++ cellsT us
 | [], _ => rfl
 | t :: ts, us => by simp only [List.cons_append, cellsT, cellsT_app ts us]
theorem cellsT_one : ∀ ts u, u ∈ cellsT ts → u.oneCell' = true
 | [], u, h => by simp [cellsT] at h
 | t :: ts, u, h => by
   simp only [cellsT, List.mem_cons] at h
   rcases h with rfl | rfl | h
   · rfl
   · rfl
   · exact cellsT_one ts u h
def TR (base : Nat) (w : World) (V : Value) (ts : List (Int × ByteArray)) : Prop := w.ownsRow base 70 2 V ts.length (cellsT ts)
theorem TR.low {base : Nat} {w w' : World} {V : Value} {ts : List (Int × ByteArray)} (h : TR base w V ts) (hb : Below w.heap.size w w') : TR base w' V ts := own_low h hb
theorem TR.nil (base : Nat) (w : World) : TR base w (.slice none 0 0) [] := World.ownsRow_nil _ _ _ _
theorem vinfo_tok : (Tryz.prog.info? 70).map (fun i => (i.zero, i.size, i.bytes)) = some (some (.agg #[.int .i64 0, .string ⟨#[]⟩]), 2, 24) := by kernel_rfl
theorem info_parts2 {t : TypeId} {z : Value} {s b : Nat} (h : (Tryz.prog.info? t).map (fun i => (i.zero, i.size, i.bytes)) = some (some z, s, b)) : ∃ i, Tryz.prog.info? t = some i ∧ i.zero = some z ∧ i.size = s ∧ i.bytes = b := by
 cases hi : Tryz.prog.info? t with
 | none => rw [hi] at h; cases h
 | some i => rw [hi] at h; simp at h; exact ⟨i, rfl, h.1, h.2.1, h.2.2⟩
def Grew (w w' : World) (V V' : Value) : Prop := w.grownBy w' V.ownBlock ∧ ∀ b, V'.ownBlock = some b → V.ownBlock = some b ∨ w.heap.size ≤ b
theorem Grew.of_below {w w' : World} {V : Value} (h : Below w.heap.size w w') : Grew w w' V V := ⟨⟨h.os, h.tape, h.output, h.size, fun b hb _ => h.block b hb⟩, fun _ hb => .inl hb⟩
theorem Grew.trans {w w1 w2 : World} {V V1 V2 : Value} (h : Grew w w1 V V1) (h' : Grew w1 w2 V1 V2) : Grew w w2 V V2 := by
 obtain ⟨g, o⟩ := h
 obtain ⟨g', o'⟩ := h'
 have hs := g.size
 refine ⟨⟨g'.os.trans g.os, g'.tape.trans g.tape, g'.output.trans g.output, Nat.le_trans hs g'.size, fun b hb hne => ?_⟩, fun b hb => ?_⟩
 · refine (g'.block b (by omega) (fun e => ?_)).trans (g.block b hb hne)
   rcases o b e.symm with h | h
   · exact hne h.symm
   · omega
 · rcases o' b hb with h | h
   · exact o b h
   · exact .inr (Nat.le_trans hs h)
theorem Grew.base {base : Nat} {w w' : World} {V V' : Value} {ts : List (Int × ByteArray)} (h : Grew w w' V V') (hT : TR base w V ts) (hB : base ≤ w.heap.size) : Below base w w' :=
 (Below.refl base w).grown h.1 hB (fun k hk => (hT.lt k hk).1)
theorem Grew.cell {w w' : World} {V V' : Value} {b i : Nat} {x : Value} (h : Grew w w' V V') (hb : b < w.heap.size) (hV : V.ownBlock ≠ some b) (hc : w.cell? ⟨b, i, none⟩ = some x) : w'.cell? ⟨b, i, none⟩ = some x :=
 (World.cell?_of_block (a := ⟨b, i, none⟩) (h.1.block b hb (fun e => hV e.symm))).trans hc
theorem wpList_append_tok {w : World} {ops : Array Oper} {rest : List Oper} {o : Oper} {a : Act} {Q : Exit → Act → World → Prop} (hgd : o.guard = none) (s x : Operand)
   (ho : o.op = .call { callee := .builtin .append, args := #[s, x], argTypes := #[45, 45] })
   (base : Nat) (v : Value) (ts : List (Int × ByteArray)) (hs : a.eval s = v) (hown : TR base w v ts) (g m c : Nat) (new : List (Int × ByteArray)) (hx : a.eval x = .slice (some ⟨g, 0, none⟩) m c) (hm : new.length = m)
   (hnew : ∀ (j : Nat) u, (cellsT new)[j]? = some u → w.cell? ((⟨g, 0, none⟩ : Addr).add j) = some u) (hm0 : 0 < m) (hlen : ts.length + m ≤ 20000000) (hbase : base ≤ w.heap.size)
   (h : ∀ v' w', TR base w' v' (ts ++ new) → Grew w w' v v' → wpList Tryz.prog ops Q rest (a.put o.dst v') w') : wpList Tryz.prog ops Q (o :: rest) a w := by
 obtain ⟨i0, hi, hz0, hz1, hz2⟩ := info_parts2 vinfo_tok
 refine wpList_append_lies w hgd s x 45 ho base 70 i0 (.agg #[.int .i64 0, .string ⟨#[]⟩]) 2 24 Tryz.underlying45 hi hz0 hz1 hz2 rfl (by decide) v _ _ hs hown ⟨g, 0, none⟩ m c (cellsT new) hx (by rw [cellsT_len, hm]) hnew (cellsT_one _) hm0 (by unfold maxLen; omega) (by omega) hbase _ rfl ?_
 intro g' cap' w' h1 h2 h3 _
 refine h _ w' ?_ ⟨h2, fun b hb => ?_⟩
 · unfold TR
   rw [List.length_append, hm, cellsT_app]
   exact h1
 · have e : g' = b := by
     have : some g' = some b := hb
     injection this
   subst e
   rcases h3 with h3 | h3
   · exact .inl h3
   · exact .inr (by omega)
theorem step_append_tok {w : World} {ops : Array Oper} {o : Oper} {a : Act} {K : Act → World → Prop} {Q : Exit → Act → World → Prop} {E : Prop} (hgd : o.guard = none) (s x : Operand)
   (ho : o.op = .call { callee := .builtin .append, args := #[s, x], argTypes := #[45, 45] })
   (base : Nat) (v : Value) (ts : List (Int × ByteArray)) (hs : a.eval s = v) (hown : TR base w v ts) (g m c : Nat) (new : List (Int × ByteArray)) (hx : a.eval x = .slice (some ⟨g, 0, none⟩) m c) (hm : new.length = m)
   (hnew : ∀ (j : Nat) u, (cellsT new)[j]? = some u → w.cell? ((⟨g, 0, none⟩ : Addr).add j) = some u) (hm0 : 0 < m) (hlen : ts.length + m ≤ 20000000) (hbase : base ≤ w.heap.size)
   (h : ∀ v' w', TR base w' v' (ts ++ new) → Grew w w' v v' → K (a.put o.dst v') w') : if Region.wanted o (yielded ops a.tmps) = true then Oper.wp Tryz.prog o a w K Q else E := by
 obtain ⟨i0, hi, hz0, hz1, hz2⟩ := info_parts2 vinfo_tok
 refine step_append_lies w hgd s x 45 ho base 70 i0 (.agg #[.int .i64 0, .string ⟨#[]⟩]) 2 24 Tryz.underlying45 hi hz0 hz1 hz2 rfl (by decide) v _ _ hs hown ⟨g, 0, none⟩ m c (cellsT new) hx (by rw [cellsT_len, hm]) hnew (cellsT_one _) hm0 (by unfold maxLen; omega) (by omega) hbase _ rfl ?_
 intro g' cap' w' h1 h2 h3 _
 refine h _ w' ?_ ⟨h2, fun b hb => ?_⟩
 · unfold TR
   rw [List.length_append, hm, cellsT_app]
   exact h1
 · have e : g' = b := by
     have : some g' = some b := hb
     injection this
   subst e
   rcases h3 with h3 | h3
   · exact .inl h3
   · exact .inr (by omega)
theorem tok_new1 (w : World) (k : Int) (s : ByteArray) (t : TypeId) {g : Nat} (hg : g = w.heap.size) : ∀ (j : Nat) u, (cellsT [(k, s)])[j]? = some u → (w.alloc (.cells #[.int .i64 k, .string s] t)).cell? ((⟨g, 0, none⟩ : Addr).add j) = some u := by
 subst hg
 intro j u hu
 rw [add_at, Nat.zero_add]
 match j, hu with
 | 0, hu => cases hu; rw [World.cell?_alloc_at _ _ _ _ rfl]; rfl
 | 1, hu => cases hu; rw [World.cell?_alloc_at _ _ _ _ rfl]; rfl
theorem tok_new2 (w : World) (k k' : Int) (s s' : ByteArray) (t : TypeId) {g : Nat} (hg : g = w.heap.size) : ∀ (j : Nat) u, (cellsT [(k, s), (k', s')])[j]? = some u → (w.alloc (.cells #[.int .i64 k, .string s, .int .i64 k', .string s'] t)).cell? ((⟨g, 0, none⟩ : Addr).add j) = some u := by
 subst hg
 intro j u hu
 rw [add_at, Nat.zero_add]
 match j, hu with
 | 0, hu => cases hu; rw [World.cell?_alloc_at _ _ _ _ rfl]; rfl
 | 1, hu => cases hu; rw [World.cell?_alloc_at _ _ _ _ rfl]; rfl
 | 2, hu => cases hu; rw [World.cell?_alloc_at _ _ _ _ rfl]; rfl
 | 3, hu => cases hu; rw [World.cell?_alloc_at _ _ _ _ rfl]; rfl
theorem ret_t1 {R : Ending → World → Prop} {fn : Func} {a : Act} {W : World} {c0 c1 : Value} {p b : Nat} (hf : fn.results = #[.cell p 70]) (h2 : a.tmps.getD p undef = .pointer (some ⟨b, 0, none⟩)) (hd : a.defers = [])
  (hc : W.heap[b]? = some (.cells #[c0, c1] 70 (0, 0))) (hR : R (.returned (.agg #[c0, c1])) W) : bodyPost Tryz.prog fn R .ret a W := by
 have hl : (loadVar 70 ⟨b, 0, none⟩).run Tryz.prog W = .ok (.agg #[c0, c1]) W :=
  run_loadVar_row W b 70 70 #[c0, c1] (0, 0) _ hc Tryz.underlying70 rfl (by kernel_rfl)
 refine bodyPost_ret ?_ hd hR
 have h2' : a.tmps[p]?.getD undef = .pointer (some ⟨b, 0, none⟩) := by rw [← h2]; simp
 simp [results, hf, h2', asAddr, hl]
theorem vword_any (s : ByteArray) (w : World) : Calls Tryz.prog 132 #[.string s] w fun e w' => e = .returned (.agg #[.int .i64 2, .string s]) ∧ Below w.heap.size w w' := by
 go_enter Tryz.func132, Tryz.ntmps132
 go_wp2_with fail
 exact ret_t1 rfl rfl rfl (heap_alloc_new _ _) ⟨rfl, (Below.refl _ _).alloc (Nat.le_refl _) _⟩
theorem vpunct_any (s : ByteArray) (w : World) : Calls Tryz.prog 136 #[.string s] w fun e w' => e = .returned (.agg #[.int .i64 1, .string s]) ∧ Below w.heap.size w w' := by
 go_enter Tryz.func136, Tryz.ntmps136
 go_wp2_with fail
 exact ret_t1 rfl rfl rfl (heap_alloc_new _ _) ⟨rfl, (Below.refl _ _).alloc (Nat.le_refl _) _⟩
theorem two_cells {w : World} {b : Nat} {z0 z1 : Value} {t : TypeId} (h : w.heap[b]? = some (.cells #[z0, z1] t (0, 0))) : w.cell? ⟨b, 0, none⟩ = some z0 ∧ w.cell? ⟨b, 1, none⟩ = some z1 ∧ w.frozen? ⟨b, 0, none⟩ = false ∧ w.frozen? ⟨b, 1, none⟩ = false := by
 refine ⟨?_, ?_, ?_, ?_⟩
 · simp only [World.cell?, h]; rfl
 · simp only [World.cell?, h]; rfl
 · simp [World.frozen?, h]
 · simp [World.frozen?, h]
theorem two_set {w : World} {b : Nat} {z0 z1 v0 v1 : Value} {t : TypeId} (h : w.heap[b]? = some (.cells #[z0, z1] t (0, 0))) : ((w.setCell ⟨b, 0, none⟩ v0).setCell ⟨b, 1, none⟩ v1).heap[b]? = some (.cells #[v0, v1] t (0, 0)) :=
 heap_setCell_same _ b 1 _ _ _ (heap_setCell_same _ b 0 _ _ _ h)
def truthT (n : Int) : ByteArray := if n = 1 then trueT else falseT
set_option maxRecDepth 100000 in
theorem vtruth_any (n : Int) (w : World) : Calls Tryz.prog 133 #[.int .i64 n] w fun e w' => e = .returned (.agg #[.int .i64 2, .string (truthT n)]) ∧ Below w.heap.size w w' := by
 have hb0 := Hd (fun o => (Below.refl w.heap.size w).alloc (Nat.le_refl _) o)
 have hc0 := Hd (heap_alloc_new w (.cells #[.int .i64 0, .string ⟨#[]⟩] 70))
 have hsz : Hid ((w.alloc (.cells #[.int .i64 0, .string ⟨#[]⟩] 70)).heap.size = w.heap.size + 1) := Hd (by simp)
 by_cases h1 : n = 1
 · subst h1
   go_enter Tryz.func133, Tryz.ntmps133
   go_wp2_with fail
   refine (vword_any _ _).mono ?_
   rintro e w2 ⟨rfl, hb⟩
   have hc2 := (hb.block w.heap.size (by rw [hsz.out]; omega)).trans hc0.out
   have HC2 := Hd hc2
   have HB := Hd ((hb0.out _).trans (hb.mono (by rw [hsz.out]; omega)))
   obtain ⟨g0, g1, g2, g3⟩ := two_cells hc2
   clear hb hc2
   go_wp2_with fail
   exact ret_t1 rfl rfl rfl (two_set HC2.out) ⟨rfl, (HB.out.setCell (p := ⟨_, _, none⟩) (Nat.le_refl _) _).setCell (p := ⟨_, _, none⟩) (Nat.le_refl _) _⟩
 · have e1 : (n == 1) = false := by simpa using h1
   have ht : truthT n = falseT := by unfold truthT; rw [if_neg h1]
   rw [ht]
   clear h1 ht
   go_enter Tryz.func133, Tryz.ntmps133
   go_wp2_with fail
   refine (vword_any _ _).mono ?_
   rintro e w2 ⟨rfl, hb⟩
   have hc2 := (hb.block w.heap.size (by rw [hsz.out]; omega)).trans hc0.out
   have HC2 := Hd hc2
   have HB := Hd ((hb0.out _).trans (hb.mono (by rw [hsz.out]; omega)))
   obtain ⟨g0, g1, g2, g3⟩ := two_cells hc2
   clear hb hc2
   go_wp2_with fail
   exact ret_t1 rfl rfl rfl (two_set HC2.out) ⟨rfl, (HB.out.setCell (p := ⟨_, _, none⟩) (Nat.le_refl _) _).setCell (p := ⟨_, _, none⟩) (Nat.le_refl _) _⟩
end Go.Proofs.YtpkmbhnikilihaaGreatDoor
