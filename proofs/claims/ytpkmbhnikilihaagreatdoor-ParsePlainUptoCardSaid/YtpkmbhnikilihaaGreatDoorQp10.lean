/- The landed selection. -/
import Derived.Test.YtpkmbhnikilihaaGreatDoorQp9
namespace Go.Proofs.YtpkmbhnikilihaaGreatDoor
open Go.RowKit
set_option maxRecDepth 100000 in
set_option maxHeartbeats 8000000 in
theorem selection_one (S : SelsF) (HF : ∀ ts l r, S ts = .ok (l, r) → Sfx r ts) (d : Nat) (ts : List Tok) (r : Nat) (w : World) (HS : ∀ tq wx, GoodD tq → tq.length ≤ ts.length → Rd wx r tq d → KRd r wx → Calls Tryz.prog 96 #[.pointer (some ⟨r, 0, none⟩)] wx (Post r d wx (layR encSL) (S tq))) (hG : GoodD ts) (hd : d ≤ 16) (hR : Rd w r ts d) (hK : KRd r w) : Calls Tryz.prog 172 #[.pointer (some ⟨r, 0, none⟩)] w (Post r d w (layS encS) (selOne S d ts)) := by
 suffices H : ∀ Q : Ending → World → Prop, (∀ e w', Post r d w (layS encS) (selOne S d ts) e w' → Q e w') → Calls Tryz.prog 172 #[.pointer (some ⟨r, 0, none⟩)] w Q from H _ (fun _ _ h => h)
 intro Q hQ
 have HQ := Hd hQ
 have L0 := Hd (List.suffix_refl ts)
 have HSS := Hd HS
 have HFF := Hd HF
 have K0 := Hd (S0.start hR hK #[.int .i64 0, .string ⟨#[]⟩, .string ⟨#[]⟩, .slice none 0 0, .slice none 0 0, .string ⟨#[]⟩, .slice none 0 0] 72)
 have G0 := Hd hG
 clear hQ hR hK hG HS HF
 go_enter Tryz.func172, Tryz.ntmps172
 go_wp2_with fail
 refine (skip_any r ts d 1 dotB _ K0.out.rd).mono ?_
 intro e w1 h
 cases hb : atB 1 dotB ts with
 | true =>
   rw [hb] at h
   obtain ⟨rfl, rr, mm⟩ := h
   rw [skip_yes hb] at rr
   have G2 := Hd (G0.out.sub (at_sfx hb).1)
   have L3 := Hd (((at_sfx hb).1).trans L0.out)
   have E4 := Hd hb
   have K5 := Hd (K0.out.next rr mm)
   clear rr mm hb
   go_wp2_with fail
   refine (spread_any S HFF.out d (ts.tail) r _ (fun tq wx g l => HSS.out tq wx g (Nat.le_trans l L3.out.length_le)) G2.out hd K5.out.rd K5.out.k).mono ?_
   intro e w3 h
   cases hv : spreadR S d ts.tail with
   | error x =>
     rw [hv] at h
     obtain ⟨rfl, m⟩ := of_err h
     exact ⟨rfl, HQ.out _ _ (per (by simp only [selOne, fieldR, E4.out, hv, if_true]) (K5.out.mv.trans m))⟩
   | ok p =>
     obtain ⟨a, tp⟩ := p
     rw [hv] at h
     obtain ⟨⟨v, rfl, hl⟩, rr, mm⟩ := of_ok h
     obtain ⟨i0, s1, s2, A3, n3, k3, A4, n4, k4, s5, A6, n6, k6, rfl, hts⟩ := sel_open hl
     have T1 := Hd (OvS.of hts K5.out.lt)
     have E6 := Hd hv
     have K7 := Hd (K5.out.next rr mm)
     clear rr mm hl hts h hv
     obtain ⟨x0, x1, x2, x3, x4, x5, x6, xz⟩ := svc K7.out.res
     have xf0 := xz 0
     have xf1 := xz 1
     have xf2 := xz 2
     have xf3 := xz 3
     have xf4 := xz 4
     have xf5 := xz 5
     have xf6 := xz 6
     clear xz
     go_wp2_with fail
     obtain ⟨f1, f2, f3⟩ := S0.fin (ys := [.int .i64 0, .string ⟨#[]⟩, .string ⟨#[]⟩, .slice none 0 0, .slice none 0 0, .string ⟨#[]⟩, .slice none 0 0]) K7.out [.int .i64 i0, .string s1, .string s2, .slice A3 n3 k3, .slice A4 n4 k4, .string s5, .slice A6 n6 k6] rfl
     have FT := T1.out.fin (w := w) (Nat.le_refl _) [.int .i64 i0, .string s1, .string s2, .slice A3 n3 k3, .slice A4 n4 k4, .string s5, .slice A6 n6 k6]
     have FP := HQ.out _ _ (post_ok (a := a) (by simp only [selOne, fieldR, E4.out, E6.out, if_true]) ⟨[.int .i64 i0, .string s1, .string s2, .slice A3 n3 k3, .slice A4 n4 k4, .string s5, .slice A6 n6 k6], rfl, FT⟩ f2 f3)
     exact ret_st rfl rfl rfl f1 Tryz.underlying72 ⟨_, rfl⟩ (by kernel_rfl) FP
 | false =>
   rw [hb] at h
   obtain ⟨rfl, rr, mm⟩ := h
   rw [skip_no hb] at rr
   have E8 := Hd hb
   have K9 := Hd (K0.out.next rr mm)
   clear rr mm hb
   go_wp2_with fail
   refine (pname_any r (ts) d _ K9.out.rd).mono ?_
   intro e w10 h
   cases hn : nameR (ts) with
   | none =>
     rw [hn] at h
     obtain ⟨rfl, m⟩ := h
     exact ⟨rfl, HQ.out _ _ (per (by simp only [selOne, fieldR, E8.out, hn, if_false, Bool.false_eq_true]) (K9.out.mv.trans m))⟩
   | some p =>
     obtain ⟨n, tn10⟩ := p
     rw [hn] at h
     obtain ⟨rfl, rr, mm⟩ := h
     have Nn := Hd (G0.out.name hn)
     have G11 := Hd (G0.out.sub (name_sfx hn).1)
     have L12 := Hd (((name_sfx hn).1).trans L0.out)
     have E13 := Hd hn
     have K14 := Hd (K9.out.next rr mm)
     clear rr mm hn
     go_wp2_with fail
     have K15 := Hd (S1.make K14.out #[.int .i64 0, .string ⟨#[]⟩, .string n, .slice none 0 0, .slice none 0 0, .string ⟨#[]⟩, .slice none 0 0] 72)
     refine (skip_any r tn10 d 1 colB _ K15.out.rd).mono ?_
     intro e w16 h
     cases hb : atB 1 colB tn10 with
     | true =>
       rw [hb] at h
       obtain ⟨rfl, rr, mm⟩ := h
       rw [skip_yes hb] at rr
       have G17 := Hd (G11.out.sub (at_sfx hb).1)
       have L18 := Hd (((at_sfx hb).1).trans L12.out)
       have E19 := Hd hb
       have K20 := Hd (K15.out.next rr mm)
       clear rr mm hb
       have K21 := Hd (K20.out.next (K20.out.rd.below (Below.drew (Below.refl _ _))) (Moved.of_below (Below.drew (Below.refl _ _))))
       obtain ⟨y0, y1, y2, y3, y4, y5, y6, yz⟩ := svc K21.out.loc
       have yf0 := yz 0
       have yf1 := yz 1
       have yf2 := yz 2
       have yf3 := yz 3
       have yf4 := yz 4
       have yf5 := yz 5
       have yf6 := yz 6
       clear yz
       go_wp2_with fail
       cases hn : nameR (tn10.tail) with
       | none =>
         refine wp_region_held_drew (S := fun _ => True) (by kernel_rfl) trivial (fun _ => ?_)
         refine wpAnyH_take (i := 0) (v := ?_) rfl (by kernel_rfl) (by kernel_rfl) (by kernel_rfl) (fun _ _ _ h => h) (Or.inl ⟨by rfl, ?_⟩) trivial ?_
         rotate_left
         · (intro w _; go_simp; try with_reducible rfl)
         simp only [Act.put, List.setIfInBounds_toArray]
         refine wpAnyH_take (i := 2) (v := ?_) rfl (by kernel_rfl) (by kernel_rfl) (by kernel_rfl) (fun _ _ _ h => h) (Or.inl ⟨by rfl, ?_⟩) trivial ?_
         rotate_left
         · (intro w _; go_simp; try with_reducible rfl)
         simp only [Act.put]
         refine wpAnyH_ready (rs := [1, 3]) (by kernel_rfl) (by simp) ?_
         refine AllReadyH.cons rfl (fun K hK => ?_) ?_
         · skip
           go_simp
           refine hK.out _ _ trivial (fun _ => ?_)
           clear hK K
           try simp only [Act.put, stT, stZ, stS]
           refine wpAnyH_take (i := 4) (v := ?_) rfl (by kernel_rfl) (by kernel_rfl) (by kernel_rfl) (fun _ _ _ h => h) (Or.inl ⟨by rfl, ?_⟩) trivial ?_
           rotate_left
           · (intro w _; go_simp; try with_reducible rfl)
           simp only [Act.put, List.setIfInBounds_toArray]
           refine wpAnyH_ready (rs := [3]) (by kernel_rfl) (by simp) ?_
           refine AllReadyH.cons rfl (fun K hK => ?_) AllReadyH.nil
           go_simp
           go_at_call 117
           refine (pname_any r (tn10.tail) d _ K21.out.rd).mono ?_
           intro e w9 h
           rw [hn] at h
           obtain ⟨rfl, m⟩ := h
           exact ⟨rfl, HQ.out _ _ (per (by simp only [selOne, fieldR, E8.out, E13.out, E19.out, hn, if_true, if_false, Bool.false_eq_true]) (K21.out.mv.trans m))⟩
         refine AllReadyH.cons rfl (fun K hK => ?_) AllReadyH.nil
         go_simp
         go_at_call 117
         refine (pname_any r (tn10.tail) d _ K21.out.rd).mono ?_
         intro e w9 h
         rw [hn] at h
         obtain ⟨rfl, m⟩ := h
         exact ⟨rfl, HQ.out _ _ (per (by simp only [selOne, fieldR, E8.out, E13.out, E19.out, hn, if_true, if_false, Bool.false_eq_true]) (K21.out.mv.trans m))⟩
       | some p =>
         obtain ⟨n2, nt2⟩ := p
         have Nn2 := Hd (G17.out.name hn)
         have E22 := Hd hn
         have hnn := Hd hn
         clear hn
         refine wp_region_held_drew (S := fun _ => True) (by kernel_rfl) trivial (fun _ => ?_)
         refine wpAnyH_take (i := 0) (v := ?_) rfl (by kernel_rfl) (by kernel_rfl) (by kernel_rfl) (fun _ _ _ h => h) (Or.inl ⟨by rfl, ?_⟩) trivial ?_
         rotate_left
         · (intro w _; go_simp; try with_reducible rfl)
         simp only [Act.put, List.setIfInBounds_toArray]
         refine wpAnyH_take (i := 2) (v := ?_) rfl (by kernel_rfl) (by kernel_rfl) (by kernel_rfl) (fun _ _ _ h => h) (Or.inl ⟨by rfl, ?_⟩) trivial ?_
         rotate_left
         · (intro w _; go_simp; try with_reducible rfl)
         simp only [Act.put]
         refine wpAnyH_ready (rs := [1, 3]) (by kernel_rfl) (by simp) ?_
         refine AllReadyH.cons rfl (fun K hK => ?_) ?_
         · skip
           go_simp
           refine hK.out _ _ trivial (fun _ => ?_)
           clear hK K
           try simp only [Act.put, stT, stZ, stS]
           refine wpAnyH_take (i := 4) (v := ?_) rfl (by kernel_rfl) (by kernel_rfl) (by kernel_rfl) (fun _ _ _ h => h) (Or.inl ⟨by rfl, ?_⟩) trivial ?_
           rotate_left
           · (intro w _; go_simp; try with_reducible rfl)
           simp only [Act.put, List.setIfInBounds_toArray]
           refine wpAnyH_ready (rs := [3]) (by kernel_rfl) (by simp) ?_
           refine AllReadyH.cons rfl (fun K hK => ?_) AllReadyH.nil
           go_simp
           go_at_call 117
           refine (pname_any r (tn10.tail) d _ K21.out.rd).mono ?_
           intro e w9 h
           rw [hnn.out] at h
           obtain ⟨rfl, rr, mm⟩ := h
           clear y0 y1 y2 y3 y4 y5 y6 yf0 yf1 yf2 yf3 yf4 yf5 yf6
           have G23 := Hd (G17.out.sub (name_sfx hnn.out).1)
           have L24 := Hd (((name_sfx hnn.out).1).trans L18.out)
           have K25 := Hd (K21.out.next rr mm)
           clear rr mm
           obtain ⟨y0, y1, y2, y3, y4, y5, y6, yz⟩ := svc K25.out.loc
           have yf0 := yz 0
           have yf1 := yz 1
           have yf2 := yz 2
           have yf3 := yz 3
           have yf4 := yz 4
           have yf5 := yz 5
           have yf6 := yz 6
           clear yz
           refine hK.out _ _ trivial (fun _ => ?_)
           clear hK K
           try simp only [Act.put, stT, stZ, stS]
           refine wpAnyH_ready (rs := [5]) (by kernel_rfl) (by simp) ?_
           refine AllReadyH.cons rfl (fun K hK => ?_) AllReadyH.nil
           go_simp
           refine hK.out _ _ trivial (fun _ => ?_)
           clear hK K
           try simp only [Act.put, stT, stZ, stS]
           refine wpAnyH_take (i := 6) (v := ?_) rfl (by kernel_rfl) (by kernel_rfl) (by kernel_rfl) (fun _ _ _ h => h) (Or.inl ⟨by rfl, ?_⟩) trivial ?_
           rotate_left
           · (intro w _; go_simp; try with_reducible rfl)
           simp only [Act.put, List.setIfInBounds_toArray]
           refine wpAnyH_ready (rs := [7]) (by kernel_rfl) (by simp) ?_
           refine AllReadyH.cons rfl (fun K hK => ?_) AllReadyH.nil
           go_simp
           refine hK.out _ _ trivial (fun _ => ?_)
           clear hK K
           try simp only [Act.put, stT, stZ, stS]
           refine wpAnyH_done (by kernel_rfl) ?_ _
           go_wp2_with fail
           clear y0 y1 y2 y3 y4 y5 y6 yf0 yf1 yf2 yf3 yf4 yf5 yf6
           have K26 : Hid (S1 w r ((w9.setCell ⟨w10.heap.size, 1, none⟩ (.string n)).setCell ⟨w10.heap.size, 2, none⟩ (.string n2)) _ (w10.heap.size) (.cells #[.int .i64 0, .string n, .string n2, .slice none 0 0, .slice none 0 0, .string ⟨#[]⟩, .slice none 0 0] 72 (0, 0)) _ d) := Hd ((K25.out.put 1 (.string n)).put 2 (.string n2))
           generalize ((w9.setCell ⟨w10.heap.size, 1, none⟩ (.string n)).setCell ⟨w10.heap.size, 2, none⟩ (.string n2)) = wz27 at K26 ⊢
           refine (args_any false d (nt2) r _ G23.out hd K26.out.rd K26.out.k).mono ?_
           intro e w28 h
           cases hv : argsR false d (nt2) with
           | error x =>
             rw [hv] at h
             obtain ⟨rfl, m⟩ := of_err h
             exact ⟨rfl, HQ.out _ _ (per (by simp only [selOne, fieldR, restR, E8.out, E13.out, E19.out, E22.out, hv, if_true, if_false, Bool.false_eq_true]) (K26.out.mv.trans m))⟩
           | ok p =>
             obtain ⟨g, tp28⟩ := p
             rw [hv] at h
             obtain ⟨⟨v, rfl, hl⟩, rr, mm⟩ := of_ok h
             obtain ⟨A3, kA3, rfl, hts⟩ := row_open hl
             have G29 := Hd (G23.out.sub (args_sfx hv))
             have L30 := Hd (((args_sfx hv)).trans L24.out)
             have K31 := Hd (K26.out.next rr mm)
             have O32 := Hd (Ov.of hts K26.out.blt)
             have E33 := Hd hv
             clear rr mm hv hl hts h
             obtain ⟨y0, y1, y2, y3, y4, y5, y6, yz⟩ := svc K31.out.loc
             have yf0 := yz 0
             have yf1 := yz 1
             have yf2 := yz 2
             have yf3 := yz 3
             have yf4 := yz 4
             have yf5 := yz 5
             have yf6 := yz 6
             clear yz
             go_wp2_with fail
             clear y0 y1 y2 y3 y4 y5 y6 yf0 yf1 yf2 yf3 yf4 yf5 yf6
             have K34 : Hid (S1 w r (w28.setCell ⟨w10.heap.size, 3, none⟩ (.slice A3 (encM g).len kA3)) _ (w10.heap.size) (.cells #[.int .i64 0, .string n, .string n2, .slice A3 (encM g).len kA3, .slice none 0 0, .string ⟨#[]⟩, .slice none 0 0] 72 (0, 0)) _ d) := Hd (K31.out.put 3 (.slice A3 (encM g).len kA3))
             have O35 : Hid (Ov (w10.heap.size) (w28.setCell ⟨w10.heap.size, 3, none⟩ (.slice A3 (encM g).len kA3)) _ _) := Hd (O32.out.put (i := 3) (v := .slice A3 (encM g).len kA3) (Nat.le_refl _))
             generalize (w28.setCell ⟨w10.heap.size, 3, none⟩ (.slice A3 (encM g).len kA3)) = wz36 at K34 O35 ⊢
             refine (dirs_any false d (tp28) r _ G29.out hd K34.out.rd K34.out.k).mono ?_
             intro e w37 h
             cases hv : dirsR false d (tp28) with
             | error x =>
               rw [hv] at h
               obtain ⟨rfl, m⟩ := of_err h
               exact ⟨rfl, HQ.out _ _ (per (by simp only [selOne, fieldR, restR, E8.out, E13.out, E19.out, E22.out, E33.out, hv, if_true, if_false, Bool.false_eq_true]) (K34.out.mv.trans m))⟩
             | ok p =>
               obtain ⟨ds, tp37⟩ := p
               rw [hv] at h
               obtain ⟨⟨v, rfl, hl⟩, rr, mm⟩ := of_ok h
               obtain ⟨A4, kA4, rfl, hts⟩ := row_open hl
               have G38 := Hd (G29.out.sub (dirs_sfx hv))
               have L39 := Hd (((dirs_sfx hv)).trans L30.out)
               have K40 := Hd (K34.out.next rr mm)
               have O41 := Hd (O35.out.next mm K34.out.rb)
               have O42 := Hd (Ov.of hts K34.out.blt)
               have E43 := Hd hv
               clear rr mm hv hl hts h
               obtain ⟨y0, y1, y2, y3, y4, y5, y6, yz⟩ := svc K40.out.loc
               have yf0 := yz 0
               have yf1 := yz 1
               have yf2 := yz 2
               have yf3 := yz 3
               have yf4 := yz 4
               have yf5 := yz 5
               have yf6 := yz 6
               clear yz
               go_wp2_with fail
               clear y0 y1 y2 y3 y4 y5 y6 yf0 yf1 yf2 yf3 yf4 yf5 yf6
               have K44 : Hid (S1 w r (w37.setCell ⟨w10.heap.size, 4, none⟩ (.slice A4 (rowOf encD ds).len kA4)) _ (w10.heap.size) (.cells #[.int .i64 0, .string n, .string n2, .slice A3 (encM g).len kA3, .slice A4 (rowOf encD ds).len kA4, .string ⟨#[]⟩, .slice none 0 0] 72 (0, 0)) _ d) := Hd (K40.out.put 4 (.slice A4 (rowOf encD ds).len kA4))
               have O45 : Hid (Ov (w10.heap.size) (w37.setCell ⟨w10.heap.size, 4, none⟩ (.slice A4 (rowOf encD ds).len kA4)) _ _) := Hd (O41.out.put (i := 4) (v := .slice A4 (rowOf encD ds).len kA4) (Nat.le_refl _))
               have O46 : Hid (Ov (w10.heap.size) (w37.setCell ⟨w10.heap.size, 4, none⟩ (.slice A4 (rowOf encD ds).len kA4)) _ _) := Hd (O42.out.put (i := 4) (v := .slice A4 (rowOf encD ds).len kA4) (Nat.le_refl _))
               generalize (w37.setCell ⟨w10.heap.size, 4, none⟩ (.slice A4 (rowOf encD ds).len kA4)) = wz47 at K44 O45 O46 ⊢
               refine (at_any r tp37 d 1 omB _ K44.out.rd).mono ?_
               intro e w48 h
               cases hb : atB 1 omB tp37 with
               | true =>
                 rw [hb] at h
                 obtain ⟨rfl, rfl⟩ := h
                 have E49 := Hd hb
                 clear hb
                 go_wp2_with fail
                 refine (HSS.out (tp37) _ G38.out (L39.out.length_le) K44.out.rd K44.out.k).mono ?_
                 intro e w50 h
                 cases hv : S (tp37) with
                 | error x =>
                   rw [hv] at h
                   obtain ⟨rfl, m⟩ := of_err h
                   exact ⟨rfl, HQ.out _ _ (per (by simp only [selOne, fieldR, restR, E8.out, E13.out, E19.out, E22.out, E33.out, E43.out, E49.out, hv, if_true, if_false, Bool.false_eq_true]) (K44.out.mv.trans m))⟩
                 | ok p =>
                   obtain ⟨sq, tp50⟩ := p
                   rw [hv] at h
                   obtain ⟨⟨v, rfl, hl⟩, rr, mm⟩ := of_ok h
                   obtain ⟨A6, kA6, rfl, hts⟩ := row_open hl
                   have G51 := Hd (G38.out.sub (HFF.out _ _ _ hv).1)
                   have L52 := Hd (((HFF.out _ _ _ hv).1).trans L39.out)
                   have K53 := Hd (K44.out.next rr mm)
                   have O54 := Hd (O45.out.next mm K44.out.rb)
                   have O55 := Hd (O46.out.next mm K44.out.rb)
                   have O56 := Hd (Ov.of hts K44.out.blt)
                   have E57 := Hd hv
                   clear rr mm hv hl hts h
                   obtain ⟨y0, y1, y2, y3, y4, y5, y6, yz⟩ := svc K53.out.loc
                   have yf0 := yz 0
                   have yf1 := yz 1
                   have yf2 := yz 2
                   have yf3 := yz 3
                   have yf4 := yz 4
                   have yf5 := yz 5
                   have yf6 := yz 6
                   clear yz
                   go_upto_region 10 with fail
                   clear y0 y1 y2 y3 y4 y5 y6 yf0 yf1 yf2 yf3 yf4 yf5 yf6
                   have K58 : Hid (S1 w r (w50.setCell ⟨w10.heap.size, 6, none⟩ (.slice A6 (encSL sq).len kA6)) _ (w10.heap.size) (.cells #[.int .i64 0, .string n, .string n2, .slice A3 (encM g).len kA3, .slice A4 (rowOf encD ds).len kA4, .string ⟨#[]⟩, .slice A6 (encSL sq).len kA6] 72 (0, 0)) _ d) := Hd (K53.out.put 6 (.slice A6 (encSL sq).len kA6))
                   have O59 : Hid (Ov (w10.heap.size) (w50.setCell ⟨w10.heap.size, 6, none⟩ (.slice A6 (encSL sq).len kA6)) _ _) := Hd (O54.out.put (i := 6) (v := .slice A6 (encSL sq).len kA6) (Nat.le_refl _))
                   have O60 : Hid (Ov (w10.heap.size) (w50.setCell ⟨w10.heap.size, 6, none⟩ (.slice A6 (encSL sq).len kA6)) _ _) := Hd (O55.out.put (i := 6) (v := .slice A6 (encSL sq).len kA6) (Nat.le_refl _))
                   have O61 : Hid (Ov (w10.heap.size) (w50.setCell ⟨w10.heap.size, 6, none⟩ (.slice A6 (encSL sq).len kA6)) _ _) := Hd (O56.out.put (i := 6) (v := .slice A6 (encSL sq).len kA6) (Nat.le_refl _))
                   generalize (w50.setCell ⟨w10.heap.size, 6, none⟩ (.slice A6 (encSL sq).len kA6)) = wz62 at K58 O59 O60 O61 ⊢
                   obtain ⟨y0, y1, y2, y3, y4, y5, y6, yz⟩ := svc K58.out.loc
                   have yf0 := yz 0
                   have yf1 := yz 1
                   have yf2 := yz 2
                   have yf3 := yz 3
                   have yf4 := yz 4
                   have yf5 := yz 5
                   have yf6 := yz 6
                   clear yz
                   obtain ⟨x0, x1, x2, x3, x4, x5, x6, xz⟩ := svc K58.out.res
                   have xf0 := xz 0
                   have xf1 := xz 1
                   have xf2 := xz 2
                   have xf3 := xz 3
                   have xf4 := xz 4
                   have xf5 := xz 5
                   have xf6 := xz 6
                   clear xz
                   go_wp2_with fail
                   clear y0 y1 y2 y3 y4 y5 y6 yf0 yf1 yf2 yf3 yf4 yf5 yf6 x0 x1 x2 x3 x4 x5 x6 xf0 xf1 xf2 xf3 xf4 xf5 xf6
                   obtain ⟨f1, f2, f3⟩ := S1.fin (ys := [.int .i64 0, .string ⟨#[]⟩, .string ⟨#[]⟩, .slice none 0 0, .slice none 0 0, .string ⟨#[]⟩, .slice none 0 0]) K58.out [.int .i64 0, .string n, .string n2, .slice A3 (encM g).len kA3, .slice A4 (rowOf encD ds).len kA4, .string ⟨#[]⟩, .slice A6 (encSL sq).len kA6] rfl
                   have Fg := O59.out.fin (w := w) (Nat.le_of_lt K58.out.bl) [.int .i64 0, .string n, .string n2, .slice A3 (encM g).len kA3, .slice A4 (rowOf encD ds).len kA4, .string ⟨#[]⟩, .slice A6 (encSL sq).len kA6]
                   have Fd := O60.out.fin (w := w) (Nat.le_of_lt K58.out.bl) [.int .i64 0, .string n, .string n2, .slice A3 (encM g).len kA3, .slice A4 (rowOf encD ds).len kA4, .string ⟨#[]⟩, .slice A6 (encSL sq).len kA6]
                   have Fs := O61.out.fin (w := w) (Nat.le_of_lt K58.out.bl) [.int .i64 0, .string n, .string n2, .slice A3 (encM g).len kA3, .slice A4 (rowOf encD ds).len kA4, .string ⟨#[]⟩, .slice A6 (encSL sq).len kA6]
                   have FP := HQ.out _ _ (post_ok (a := .mk 0 n n2 g ds eB sq) (by simp only [selOne, fieldR, restR, E8.out, E13.out, E19.out, E22.out, E33.out, E43.out, E49.out, E57.out, if_true, if_false, Bool.false_eq_true]) ⟨[.int .i64 0, .string n, .string n2, .slice A3 (encM g).len kA3, .slice A4 (rowOf encD ds).len kA4, .string ⟨#[]⟩, .slice A6 (encSL sq).len kA6], rfl, (by rw [encS]; exact TS.int (TS.str Nn.out (TS.str Nn2.out (TS.row Fg (TS.row Fd (TS.str (Nat.zero_le _) (TS.row Fs (TS.nil _ _))))))))⟩ f2 f3)
                   exact ret_st rfl rfl rfl f1 Tryz.underlying72 ⟨_, rfl⟩ (by kernel_rfl) FP
               | false =>
                 rw [hb] at h
                 obtain ⟨rfl, rfl⟩ := h
                 have E63 := Hd hb
                 clear hb
                 obtain ⟨y0, y1, y2, y3, y4, y5, y6, yz⟩ := svc K44.out.loc
                 have yf0 := yz 0
                 have yf1 := yz 1
                 have yf2 := yz 2
                 have yf3 := yz 3
                 have yf4 := yz 4
                 have yf5 := yz 5
                 have yf6 := yz 6
                 clear yz
                 obtain ⟨x0, x1, x2, x3, x4, x5, x6, xz⟩ := svc K44.out.res
                 have xf0 := xz 0
                 have xf1 := xz 1
                 have xf2 := xz 2
                 have xf3 := xz 3
                 have xf4 := xz 4
                 have xf5 := xz 5
                 have xf6 := xz 6
                 clear xz
                 go_wp2_with fail
                 clear y0 y1 y2 y3 y4 y5 y6 yf0 yf1 yf2 yf3 yf4 yf5 yf6 x0 x1 x2 x3 x4 x5 x6 xf0 xf1 xf2 xf3 xf4 xf5 xf6
                 obtain ⟨f1, f2, f3⟩ := S1.fin (ys := [.int .i64 0, .string ⟨#[]⟩, .string ⟨#[]⟩, .slice none 0 0, .slice none 0 0, .string ⟨#[]⟩, .slice none 0 0]) K44.out [.int .i64 0, .string n, .string n2, .slice A3 (encM g).len kA3, .slice A4 (rowOf encD ds).len kA4, .string ⟨#[]⟩, .slice none 0 0] rfl
                 have Fg := O45.out.fin (w := w) (Nat.le_of_lt K44.out.bl) [.int .i64 0, .string n, .string n2, .slice A3 (encM g).len kA3, .slice A4 (rowOf encD ds).len kA4, .string ⟨#[]⟩, .slice none 0 0]
                 have Fd := O46.out.fin (w := w) (Nat.le_of_lt K44.out.bl) [.int .i64 0, .string n, .string n2, .slice A3 (encM g).len kA3, .slice A4 (rowOf encD ds).len kA4, .string ⟨#[]⟩, .slice none 0 0]
                 have FP := HQ.out _ _ (post_ok (a := .mk 0 n n2 g ds eB .nil) (by simp only [selOne, fieldR, restR, E8.out, E13.out, E19.out, E22.out, E33.out, E43.out, E63.out, if_true, if_false, Bool.false_eq_true]) ⟨[.int .i64 0, .string n, .string n2, .slice A3 (encM g).len kA3, .slice A4 (rowOf encD ds).len kA4, .string ⟨#[]⟩, .slice none 0 0], rfl, (by rw [encS]; exact TS.int (TS.str Nn.out (TS.str Nn2.out (TS.row Fg (TS.row Fd (TS.str (Nat.zero_le _) (TS.row (show TP _ _ (.row (encSL .nil)) _ by rw [encSL]; exact TP.none _ _) (TS.nil _ _))))))))⟩ f2 f3)
                 exact ret_st rfl rfl rfl f1 Tryz.underlying72 ⟨_, rfl⟩ (by kernel_rfl) FP
         refine AllReadyH.cons rfl (fun K hK => ?_) AllReadyH.nil
         go_simp
         go_at_call 117
         refine (pname_any r (tn10.tail) d _ K21.out.rd).mono ?_
         intro e w9 h
         rw [hnn.out] at h
         obtain ⟨rfl, rr, mm⟩ := h
         clear y0 y1 y2 y3 y4 y5 y6 yf0 yf1 yf2 yf3 yf4 yf5 yf6
         have G64 := Hd (G17.out.sub (name_sfx hnn.out).1)
         have L65 := Hd (((name_sfx hnn.out).1).trans L18.out)
         have K66 := Hd (K21.out.next rr mm)
         clear rr mm
         obtain ⟨y0, y1, y2, y3, y4, y5, y6, yz⟩ := svc K66.out.loc
         have yf0 := yz 0
         have yf1 := yz 1
         have yf2 := yz 2
         have yf3 := yz 3
         have yf4 := yz 4
         have yf5 := yz 5
         have yf6 := yz 6
         clear yz
         refine hK.out _ _ trivial (fun _ => ?_)
         clear hK K
         try simp only [Act.put, stT, stZ, stS]
         refine wpAnyH_ready (rs := [1]) (by kernel_rfl) (by simp) ?_
         refine AllReadyH.cons rfl (fun K hK => ?_) AllReadyH.nil
         go_simp
         refine hK.out _ _ trivial (fun _ => ?_)
         clear hK K
         try simp only [Act.put, stT, stZ, stS]
         refine wpAnyH_take (i := 4) (v := ?_) rfl (by kernel_rfl) (by kernel_rfl) (by kernel_rfl) (fun _ _ _ h => h) (Or.inl ⟨by rfl, ?_⟩) trivial ?_
         rotate_left
         · (intro w _; go_simp; try with_reducible rfl)
         simp only [Act.put, List.setIfInBounds_toArray]
         refine wpAnyH_ready (rs := [5]) (by kernel_rfl) (by simp) ?_
         refine AllReadyH.cons rfl (fun K hK => ?_) AllReadyH.nil
         go_simp
         refine hK.out _ _ trivial (fun _ => ?_)
         clear hK K
         try simp only [Act.put, stT, stZ, stS]
         refine wpAnyH_take (i := 6) (v := ?_) rfl (by kernel_rfl) (by kernel_rfl) (by kernel_rfl) (fun _ _ _ h => h) (Or.inl ⟨by rfl, ?_⟩) trivial ?_
         rotate_left
         · (intro w _; go_simp; try with_reducible rfl)
         simp only [Act.put, List.setIfInBounds_toArray]
         refine wpAnyH_ready (rs := [7]) (by kernel_rfl) (by simp) ?_
         refine AllReadyH.cons rfl (fun K hK => ?_) AllReadyH.nil
         go_simp
         refine hK.out _ _ trivial (fun _ => ?_)
         clear hK K
         try simp only [Act.put, stT, stZ, stS]
         refine wpAnyH_done (by kernel_rfl) ?_ _
         go_wp2_with fail
         clear y0 y1 y2 y3 y4 y5 y6 yf0 yf1 yf2 yf3 yf4 yf5 yf6
         have K67 : Hid (S1 w r ((w9.setCell ⟨w10.heap.size, 1, none⟩ (.string n)).setCell ⟨w10.heap.size, 2, none⟩ (.string n2)) _ (w10.heap.size) (.cells #[.int .i64 0, .string n, .string n2, .slice none 0 0, .slice none 0 0, .string ⟨#[]⟩, .slice none 0 0] 72 (0, 0)) _ d) := Hd ((K66.out.put 1 (.string n)).put 2 (.string n2))
         generalize ((w9.setCell ⟨w10.heap.size, 1, none⟩ (.string n)).setCell ⟨w10.heap.size, 2, none⟩ (.string n2)) = wz68 at K67 ⊢
         refine (args_any false d (nt2) r _ G64.out hd K67.out.rd K67.out.k).mono ?_
         intro e w69 h
         cases hv : argsR false d (nt2) with
         | error x =>
           rw [hv] at h
           obtain ⟨rfl, m⟩ := of_err h
           exact ⟨rfl, HQ.out _ _ (per (by simp only [selOne, fieldR, restR, E8.out, E13.out, E19.out, E22.out, hv, if_true, if_false, Bool.false_eq_true]) (K67.out.mv.trans m))⟩
         | ok p =>
           obtain ⟨g, tp69⟩ := p
           rw [hv] at h
           obtain ⟨⟨v, rfl, hl⟩, rr, mm⟩ := of_ok h
           obtain ⟨A3, kA3, rfl, hts⟩ := row_open hl
           have G70 := Hd (G64.out.sub (args_sfx hv))
           have L71 := Hd (((args_sfx hv)).trans L65.out)
           have K72 := Hd (K67.out.next rr mm)
           have O73 := Hd (Ov.of hts K67.out.blt)
           have E74 := Hd hv
           clear rr mm hv hl hts h
           obtain ⟨y0, y1, y2, y3, y4, y5, y6, yz⟩ := svc K72.out.loc
           have yf0 := yz 0
           have yf1 := yz 1
           have yf2 := yz 2
           have yf3 := yz 3
           have yf4 := yz 4
           have yf5 := yz 5
           have yf6 := yz 6
           clear yz
           go_wp2_with fail
           clear y0 y1 y2 y3 y4 y5 y6 yf0 yf1 yf2 yf3 yf4 yf5 yf6
           have K75 : Hid (S1 w r (w69.setCell ⟨w10.heap.size, 3, none⟩ (.slice A3 (encM g).len kA3)) _ (w10.heap.size) (.cells #[.int .i64 0, .string n, .string n2, .slice A3 (encM g).len kA3, .slice none 0 0, .string ⟨#[]⟩, .slice none 0 0] 72 (0, 0)) _ d) := Hd (K72.out.put 3 (.slice A3 (encM g).len kA3))
           have O76 : Hid (Ov (w10.heap.size) (w69.setCell ⟨w10.heap.size, 3, none⟩ (.slice A3 (encM g).len kA3)) _ _) := Hd (O73.out.put (i := 3) (v := .slice A3 (encM g).len kA3) (Nat.le_refl _))
           generalize (w69.setCell ⟨w10.heap.size, 3, none⟩ (.slice A3 (encM g).len kA3)) = wz77 at K75 O76 ⊢
           refine (dirs_any false d (tp69) r _ G70.out hd K75.out.rd K75.out.k).mono ?_
           intro e w78 h
           cases hv : dirsR false d (tp69) with
           | error x =>
             rw [hv] at h
             obtain ⟨rfl, m⟩ := of_err h
             exact ⟨rfl, HQ.out _ _ (per (by simp only [selOne, fieldR, restR, E8.out, E13.out, E19.out, E22.out, E74.out, hv, if_true, if_false, Bool.false_eq_true]) (K75.out.mv.trans m))⟩
           | ok p =>
             obtain ⟨ds, tp78⟩ := p
             rw [hv] at h
             obtain ⟨⟨v, rfl, hl⟩, rr, mm⟩ := of_ok h
             obtain ⟨A4, kA4, rfl, hts⟩ := row_open hl
             have G79 := Hd (G70.out.sub (dirs_sfx hv))
             have L80 := Hd (((dirs_sfx hv)).trans L71.out)
             have K81 := Hd (K75.out.next rr mm)
             have O82 := Hd (O76.out.next mm K75.out.rb)
             have O83 := Hd (Ov.of hts K75.out.blt)
             have E84 := Hd hv
             clear rr mm hv hl hts h
             obtain ⟨y0, y1, y2, y3, y4, y5, y6, yz⟩ := svc K81.out.loc
             have yf0 := yz 0
             have yf1 := yz 1
             have yf2 := yz 2
             have yf3 := yz 3
             have yf4 := yz 4
             have yf5 := yz 5
             have yf6 := yz 6
             clear yz
             go_wp2_with fail
             clear y0 y1 y2 y3 y4 y5 y6 yf0 yf1 yf2 yf3 yf4 yf5 yf6
             have K85 : Hid (S1 w r (w78.setCell ⟨w10.heap.size, 4, none⟩ (.slice A4 (rowOf encD ds).len kA4)) _ (w10.heap.size) (.cells #[.int .i64 0, .string n, .string n2, .slice A3 (encM g).len kA3, .slice A4 (rowOf encD ds).len kA4, .string ⟨#[]⟩, .slice none 0 0] 72 (0, 0)) _ d) := Hd (K81.out.put 4 (.slice A4 (rowOf encD ds).len kA4))
             have O86 : Hid (Ov (w10.heap.size) (w78.setCell ⟨w10.heap.size, 4, none⟩ (.slice A4 (rowOf encD ds).len kA4)) _ _) := Hd (O82.out.put (i := 4) (v := .slice A4 (rowOf encD ds).len kA4) (Nat.le_refl _))
             have O87 : Hid (Ov (w10.heap.size) (w78.setCell ⟨w10.heap.size, 4, none⟩ (.slice A4 (rowOf encD ds).len kA4)) _ _) := Hd (O83.out.put (i := 4) (v := .slice A4 (rowOf encD ds).len kA4) (Nat.le_refl _))
             generalize (w78.setCell ⟨w10.heap.size, 4, none⟩ (.slice A4 (rowOf encD ds).len kA4)) = wz88 at K85 O86 O87 ⊢
             refine (at_any r tp78 d 1 omB _ K85.out.rd).mono ?_
             intro e w89 h
             cases hb : atB 1 omB tp78 with
             | true =>
               rw [hb] at h
               obtain ⟨rfl, rfl⟩ := h
               have E90 := Hd hb
               clear hb
               go_wp2_with fail
               refine (HSS.out (tp78) _ G79.out (L80.out.length_le) K85.out.rd K85.out.k).mono ?_
               intro e w91 h
               cases hv : S (tp78) with
               | error x =>
                 rw [hv] at h
                 obtain ⟨rfl, m⟩ := of_err h
                 exact ⟨rfl, HQ.out _ _ (per (by simp only [selOne, fieldR, restR, E8.out, E13.out, E19.out, E22.out, E74.out, E84.out, E90.out, hv, if_true, if_false, Bool.false_eq_true]) (K85.out.mv.trans m))⟩
               | ok p =>
                 obtain ⟨sq, tp91⟩ := p
                 rw [hv] at h
                 obtain ⟨⟨v, rfl, hl⟩, rr, mm⟩ := of_ok h
                 obtain ⟨A6, kA6, rfl, hts⟩ := row_open hl
                 have G92 := Hd (G79.out.sub (HFF.out _ _ _ hv).1)
                 have L93 := Hd (((HFF.out _ _ _ hv).1).trans L80.out)
                 have K94 := Hd (K85.out.next rr mm)
                 have O95 := Hd (O86.out.next mm K85.out.rb)
                 have O96 := Hd (O87.out.next mm K85.out.rb)
                 have O97 := Hd (Ov.of hts K85.out.blt)
                 have E98 := Hd hv
                 clear rr mm hv hl hts h
                 obtain ⟨y0, y1, y2, y3, y4, y5, y6, yz⟩ := svc K94.out.loc
                 have yf0 := yz 0
                 have yf1 := yz 1
                 have yf2 := yz 2
                 have yf3 := yz 3
                 have yf4 := yz 4
                 have yf5 := yz 5
                 have yf6 := yz 6
                 clear yz
                 go_upto_region 10 with fail
                 clear y0 y1 y2 y3 y4 y5 y6 yf0 yf1 yf2 yf3 yf4 yf5 yf6
                 have K99 : Hid (S1 w r (w91.setCell ⟨w10.heap.size, 6, none⟩ (.slice A6 (encSL sq).len kA6)) _ (w10.heap.size) (.cells #[.int .i64 0, .string n, .string n2, .slice A3 (encM g).len kA3, .slice A4 (rowOf encD ds).len kA4, .string ⟨#[]⟩, .slice A6 (encSL sq).len kA6] 72 (0, 0)) _ d) := Hd (K94.out.put 6 (.slice A6 (encSL sq).len kA6))
                 have O100 : Hid (Ov (w10.heap.size) (w91.setCell ⟨w10.heap.size, 6, none⟩ (.slice A6 (encSL sq).len kA6)) _ _) := Hd (O95.out.put (i := 6) (v := .slice A6 (encSL sq).len kA6) (Nat.le_refl _))
                 have O101 : Hid (Ov (w10.heap.size) (w91.setCell ⟨w10.heap.size, 6, none⟩ (.slice A6 (encSL sq).len kA6)) _ _) := Hd (O96.out.put (i := 6) (v := .slice A6 (encSL sq).len kA6) (Nat.le_refl _))
                 have O102 : Hid (Ov (w10.heap.size) (w91.setCell ⟨w10.heap.size, 6, none⟩ (.slice A6 (encSL sq).len kA6)) _ _) := Hd (O97.out.put (i := 6) (v := .slice A6 (encSL sq).len kA6) (Nat.le_refl _))
                 generalize (w91.setCell ⟨w10.heap.size, 6, none⟩ (.slice A6 (encSL sq).len kA6)) = wz103 at K99 O100 O101 O102 ⊢
                 obtain ⟨y0, y1, y2, y3, y4, y5, y6, yz⟩ := svc K99.out.loc
                 have yf0 := yz 0
                 have yf1 := yz 1
                 have yf2 := yz 2
                 have yf3 := yz 3
                 have yf4 := yz 4
                 have yf5 := yz 5
                 have yf6 := yz 6
                 clear yz
                 obtain ⟨x0, x1, x2, x3, x4, x5, x6, xz⟩ := svc K99.out.res
                 have xf0 := xz 0
                 have xf1 := xz 1
                 have xf2 := xz 2
                 have xf3 := xz 3
                 have xf4 := xz 4
                 have xf5 := xz 5
                 have xf6 := xz 6
                 clear xz
                 go_wp2_with fail
                 clear y0 y1 y2 y3 y4 y5 y6 yf0 yf1 yf2 yf3 yf4 yf5 yf6 x0 x1 x2 x3 x4 x5 x6 xf0 xf1 xf2 xf3 xf4 xf5 xf6
                 obtain ⟨f1, f2, f3⟩ := S1.fin (ys := [.int .i64 0, .string ⟨#[]⟩, .string ⟨#[]⟩, .slice none 0 0, .slice none 0 0, .string ⟨#[]⟩, .slice none 0 0]) K99.out [.int .i64 0, .string n, .string n2, .slice A3 (encM g).len kA3, .slice A4 (rowOf encD ds).len kA4, .string ⟨#[]⟩, .slice A6 (encSL sq).len kA6] rfl
                 have Fg := O100.out.fin (w := w) (Nat.le_of_lt K99.out.bl) [.int .i64 0, .string n, .string n2, .slice A3 (encM g).len kA3, .slice A4 (rowOf encD ds).len kA4, .string ⟨#[]⟩, .slice A6 (encSL sq).len kA6]
                 have Fd := O101.out.fin (w := w) (Nat.le_of_lt K99.out.bl) [.int .i64 0, .string n, .string n2, .slice A3 (encM g).len kA3, .slice A4 (rowOf encD ds).len kA4, .string ⟨#[]⟩, .slice A6 (encSL sq).len kA6]
                 have Fs := O102.out.fin (w := w) (Nat.le_of_lt K99.out.bl) [.int .i64 0, .string n, .string n2, .slice A3 (encM g).len kA3, .slice A4 (rowOf encD ds).len kA4, .string ⟨#[]⟩, .slice A6 (encSL sq).len kA6]
                 have FP := HQ.out _ _ (post_ok (a := .mk 0 n n2 g ds eB sq) (by simp only [selOne, fieldR, restR, E8.out, E13.out, E19.out, E22.out, E74.out, E84.out, E90.out, E98.out, if_true, if_false, Bool.false_eq_true]) ⟨[.int .i64 0, .string n, .string n2, .slice A3 (encM g).len kA3, .slice A4 (rowOf encD ds).len kA4, .string ⟨#[]⟩, .slice A6 (encSL sq).len kA6], rfl, (by rw [encS]; exact TS.int (TS.str Nn.out (TS.str Nn2.out (TS.row Fg (TS.row Fd (TS.str (Nat.zero_le _) (TS.row Fs (TS.nil _ _))))))))⟩ f2 f3)
                 exact ret_st rfl rfl rfl f1 Tryz.underlying72 ⟨_, rfl⟩ (by kernel_rfl) FP
             | false =>
               rw [hb] at h
               obtain ⟨rfl, rfl⟩ := h
               have E104 := Hd hb
               clear hb
               obtain ⟨y0, y1, y2, y3, y4, y5, y6, yz⟩ := svc K85.out.loc
               have yf0 := yz 0
               have yf1 := yz 1
               have yf2 := yz 2
               have yf3 := yz 3
               have yf4 := yz 4
               have yf5 := yz 5
               have yf6 := yz 6
               clear yz
               obtain ⟨x0, x1, x2, x3, x4, x5, x6, xz⟩ := svc K85.out.res
               have xf0 := xz 0
               have xf1 := xz 1
               have xf2 := xz 2
               have xf3 := xz 3
               have xf4 := xz 4
               have xf5 := xz 5
               have xf6 := xz 6
               clear xz
               go_wp2_with fail
               clear y0 y1 y2 y3 y4 y5 y6 yf0 yf1 yf2 yf3 yf4 yf5 yf6 x0 x1 x2 x3 x4 x5 x6 xf0 xf1 xf2 xf3 xf4 xf5 xf6
               obtain ⟨f1, f2, f3⟩ := S1.fin (ys := [.int .i64 0, .string ⟨#[]⟩, .string ⟨#[]⟩, .slice none 0 0, .slice none 0 0, .string ⟨#[]⟩, .slice none 0 0]) K85.out [.int .i64 0, .string n, .string n2, .slice A3 (encM g).len kA3, .slice A4 (rowOf encD ds).len kA4, .string ⟨#[]⟩, .slice none 0 0] rfl
               have Fg := O86.out.fin (w := w) (Nat.le_of_lt K85.out.bl) [.int .i64 0, .string n, .string n2, .slice A3 (encM g).len kA3, .slice A4 (rowOf encD ds).len kA4, .string ⟨#[]⟩, .slice none 0 0]
               have Fd := O87.out.fin (w := w) (Nat.le_of_lt K85.out.bl) [.int .i64 0, .string n, .string n2, .slice A3 (encM g).len kA3, .slice A4 (rowOf encD ds).len kA4, .string ⟨#[]⟩, .slice none 0 0]
               have FP := HQ.out _ _ (post_ok (a := .mk 0 n n2 g ds eB .nil) (by simp only [selOne, fieldR, restR, E8.out, E13.out, E19.out, E22.out, E74.out, E84.out, E104.out, if_true, if_false, Bool.false_eq_true]) ⟨[.int .i64 0, .string n, .string n2, .slice A3 (encM g).len kA3, .slice A4 (rowOf encD ds).len kA4, .string ⟨#[]⟩, .slice none 0 0], rfl, (by rw [encS]; exact TS.int (TS.str Nn.out (TS.str Nn2.out (TS.row Fg (TS.row Fd (TS.str (Nat.zero_le _) (TS.row (show TP _ _ (.row (encSL .nil)) _ by rw [encSL]; exact TP.none _ _) (TS.nil _ _))))))))⟩ f2 f3)
               exact ret_st rfl rfl rfl f1 Tryz.underlying72 ⟨_, rfl⟩ (by kernel_rfl) FP
     | false =>
       rw [hb] at h
       obtain ⟨rfl, rr, mm⟩ := h
       rw [skip_no hb] at rr
       have E105 := Hd hb
       have K106 := Hd (K15.out.next rr mm)
       clear rr mm hb
       go_wp2_with fail
       refine (args_any false d (tn10) r _ G11.out hd K106.out.rd K106.out.k).mono ?_
       intro e w107 h
       cases hv : argsR false d (tn10) with
       | error x =>
         rw [hv] at h
         obtain ⟨rfl, m⟩ := of_err h
         exact ⟨rfl, HQ.out _ _ (per (by simp only [selOne, fieldR, restR, E8.out, E13.out, E105.out, hv, if_false, Bool.false_eq_true]) (K106.out.mv.trans m))⟩
       | ok p =>
         obtain ⟨g, tp107⟩ := p
         rw [hv] at h
         obtain ⟨⟨v, rfl, hl⟩, rr, mm⟩ := of_ok h
         obtain ⟨A3, kA3, rfl, hts⟩ := row_open hl
         have G108 := Hd (G11.out.sub (args_sfx hv))
         have L109 := Hd (((args_sfx hv)).trans L12.out)
         have K110 := Hd (K106.out.next rr mm)
         have O111 := Hd (Ov.of hts K106.out.blt)
         have E112 := Hd hv
         clear rr mm hv hl hts h
         obtain ⟨y0, y1, y2, y3, y4, y5, y6, yz⟩ := svc K110.out.loc
         have yf0 := yz 0
         have yf1 := yz 1
         have yf2 := yz 2
         have yf3 := yz 3
         have yf4 := yz 4
         have yf5 := yz 5
         have yf6 := yz 6
         clear yz
         go_wp2_with fail
         clear y0 y1 y2 y3 y4 y5 y6 yf0 yf1 yf2 yf3 yf4 yf5 yf6
         have K113 : Hid (S1 w r (w107.setCell ⟨w10.heap.size, 3, none⟩ (.slice A3 (encM g).len kA3)) _ (w10.heap.size) (.cells #[.int .i64 0, .string ⟨#[]⟩, .string n, .slice A3 (encM g).len kA3, .slice none 0 0, .string ⟨#[]⟩, .slice none 0 0] 72 (0, 0)) _ d) := Hd (K110.out.put 3 (.slice A3 (encM g).len kA3))
         have O114 : Hid (Ov (w10.heap.size) (w107.setCell ⟨w10.heap.size, 3, none⟩ (.slice A3 (encM g).len kA3)) _ _) := Hd (O111.out.put (i := 3) (v := .slice A3 (encM g).len kA3) (Nat.le_refl _))
         generalize (w107.setCell ⟨w10.heap.size, 3, none⟩ (.slice A3 (encM g).len kA3)) = wz115 at K113 O114 ⊢
         refine (dirs_any false d (tp107) r _ G108.out hd K113.out.rd K113.out.k).mono ?_
         intro e w116 h
         cases hv : dirsR false d (tp107) with
         | error x =>
           rw [hv] at h
           obtain ⟨rfl, m⟩ := of_err h
           exact ⟨rfl, HQ.out _ _ (per (by simp only [selOne, fieldR, restR, E8.out, E13.out, E105.out, E112.out, hv, if_false, Bool.false_eq_true]) (K113.out.mv.trans m))⟩
         | ok p =>
           obtain ⟨ds, tp116⟩ := p
           rw [hv] at h
           obtain ⟨⟨v, rfl, hl⟩, rr, mm⟩ := of_ok h
           obtain ⟨A4, kA4, rfl, hts⟩ := row_open hl
           have G117 := Hd (G108.out.sub (dirs_sfx hv))
           have L118 := Hd (((dirs_sfx hv)).trans L109.out)
           have K119 := Hd (K113.out.next rr mm)
           have O120 := Hd (O114.out.next mm K113.out.rb)
           have O121 := Hd (Ov.of hts K113.out.blt)
           have E122 := Hd hv
           clear rr mm hv hl hts h
           obtain ⟨y0, y1, y2, y3, y4, y5, y6, yz⟩ := svc K119.out.loc
           have yf0 := yz 0
           have yf1 := yz 1
           have yf2 := yz 2
           have yf3 := yz 3
           have yf4 := yz 4
           have yf5 := yz 5
           have yf6 := yz 6
           clear yz
           go_wp2_with fail
           clear y0 y1 y2 y3 y4 y5 y6 yf0 yf1 yf2 yf3 yf4 yf5 yf6
           have K123 : Hid (S1 w r (w116.setCell ⟨w10.heap.size, 4, none⟩ (.slice A4 (rowOf encD ds).len kA4)) _ (w10.heap.size) (.cells #[.int .i64 0, .string ⟨#[]⟩, .string n, .slice A3 (encM g).len kA3, .slice A4 (rowOf encD ds).len kA4, .string ⟨#[]⟩, .slice none 0 0] 72 (0, 0)) _ d) := Hd (K119.out.put 4 (.slice A4 (rowOf encD ds).len kA4))
           have O124 : Hid (Ov (w10.heap.size) (w116.setCell ⟨w10.heap.size, 4, none⟩ (.slice A4 (rowOf encD ds).len kA4)) _ _) := Hd (O120.out.put (i := 4) (v := .slice A4 (rowOf encD ds).len kA4) (Nat.le_refl _))
           have O125 : Hid (Ov (w10.heap.size) (w116.setCell ⟨w10.heap.size, 4, none⟩ (.slice A4 (rowOf encD ds).len kA4)) _ _) := Hd (O121.out.put (i := 4) (v := .slice A4 (rowOf encD ds).len kA4) (Nat.le_refl _))
           generalize (w116.setCell ⟨w10.heap.size, 4, none⟩ (.slice A4 (rowOf encD ds).len kA4)) = wz126 at K123 O124 O125 ⊢
           refine (at_any r tp116 d 1 omB _ K123.out.rd).mono ?_
           intro e w127 h
           cases hb : atB 1 omB tp116 with
           | true =>
             rw [hb] at h
             obtain ⟨rfl, rfl⟩ := h
             have E128 := Hd hb
             clear hb
             go_wp2_with fail
             refine (HSS.out (tp116) _ G117.out (L118.out.length_le) K123.out.rd K123.out.k).mono ?_
             intro e w129 h
             cases hv : S (tp116) with
             | error x =>
               rw [hv] at h
               obtain ⟨rfl, m⟩ := of_err h
               exact ⟨rfl, HQ.out _ _ (per (by simp only [selOne, fieldR, restR, E8.out, E13.out, E105.out, E112.out, E122.out, E128.out, hv, if_true, if_false, Bool.false_eq_true]) (K123.out.mv.trans m))⟩
             | ok p =>
               obtain ⟨sq, tp129⟩ := p
               rw [hv] at h
               obtain ⟨⟨v, rfl, hl⟩, rr, mm⟩ := of_ok h
               obtain ⟨A6, kA6, rfl, hts⟩ := row_open hl
               have G130 := Hd (G117.out.sub (HFF.out _ _ _ hv).1)
               have L131 := Hd (((HFF.out _ _ _ hv).1).trans L118.out)
               have K132 := Hd (K123.out.next rr mm)
               have O133 := Hd (O124.out.next mm K123.out.rb)
               have O134 := Hd (O125.out.next mm K123.out.rb)
               have O135 := Hd (Ov.of hts K123.out.blt)
               have E136 := Hd hv
               clear rr mm hv hl hts h
               obtain ⟨y0, y1, y2, y3, y4, y5, y6, yz⟩ := svc K132.out.loc
               have yf0 := yz 0
               have yf1 := yz 1
               have yf2 := yz 2
               have yf3 := yz 3
               have yf4 := yz 4
               have yf5 := yz 5
               have yf6 := yz 6
               clear yz
               go_upto_region 10 with fail
               clear y0 y1 y2 y3 y4 y5 y6 yf0 yf1 yf2 yf3 yf4 yf5 yf6
               have K137 : Hid (S1 w r (w129.setCell ⟨w10.heap.size, 6, none⟩ (.slice A6 (encSL sq).len kA6)) _ (w10.heap.size) (.cells #[.int .i64 0, .string ⟨#[]⟩, .string n, .slice A3 (encM g).len kA3, .slice A4 (rowOf encD ds).len kA4, .string ⟨#[]⟩, .slice A6 (encSL sq).len kA6] 72 (0, 0)) _ d) := Hd (K132.out.put 6 (.slice A6 (encSL sq).len kA6))
               have O138 : Hid (Ov (w10.heap.size) (w129.setCell ⟨w10.heap.size, 6, none⟩ (.slice A6 (encSL sq).len kA6)) _ _) := Hd (O133.out.put (i := 6) (v := .slice A6 (encSL sq).len kA6) (Nat.le_refl _))
               have O139 : Hid (Ov (w10.heap.size) (w129.setCell ⟨w10.heap.size, 6, none⟩ (.slice A6 (encSL sq).len kA6)) _ _) := Hd (O134.out.put (i := 6) (v := .slice A6 (encSL sq).len kA6) (Nat.le_refl _))
               have O140 : Hid (Ov (w10.heap.size) (w129.setCell ⟨w10.heap.size, 6, none⟩ (.slice A6 (encSL sq).len kA6)) _ _) := Hd (O135.out.put (i := 6) (v := .slice A6 (encSL sq).len kA6) (Nat.le_refl _))
               generalize (w129.setCell ⟨w10.heap.size, 6, none⟩ (.slice A6 (encSL sq).len kA6)) = wz141 at K137 O138 O139 O140 ⊢
               obtain ⟨y0, y1, y2, y3, y4, y5, y6, yz⟩ := svc K137.out.loc
               have yf0 := yz 0
               have yf1 := yz 1
               have yf2 := yz 2
               have yf3 := yz 3
               have yf4 := yz 4
               have yf5 := yz 5
               have yf6 := yz 6
               clear yz
               obtain ⟨x0, x1, x2, x3, x4, x5, x6, xz⟩ := svc K137.out.res
               have xf0 := xz 0
               have xf1 := xz 1
               have xf2 := xz 2
               have xf3 := xz 3
               have xf4 := xz 4
               have xf5 := xz 5
               have xf6 := xz 6
               clear xz
               go_wp2_with fail
               clear y0 y1 y2 y3 y4 y5 y6 yf0 yf1 yf2 yf3 yf4 yf5 yf6 x0 x1 x2 x3 x4 x5 x6 xf0 xf1 xf2 xf3 xf4 xf5 xf6
               obtain ⟨f1, f2, f3⟩ := S1.fin (ys := [.int .i64 0, .string ⟨#[]⟩, .string ⟨#[]⟩, .slice none 0 0, .slice none 0 0, .string ⟨#[]⟩, .slice none 0 0]) K137.out [.int .i64 0, .string ⟨#[]⟩, .string n, .slice A3 (encM g).len kA3, .slice A4 (rowOf encD ds).len kA4, .string ⟨#[]⟩, .slice A6 (encSL sq).len kA6] rfl
               have Fg := O138.out.fin (w := w) (Nat.le_of_lt K137.out.bl) [.int .i64 0, .string ⟨#[]⟩, .string n, .slice A3 (encM g).len kA3, .slice A4 (rowOf encD ds).len kA4, .string ⟨#[]⟩, .slice A6 (encSL sq).len kA6]
               have Fd := O139.out.fin (w := w) (Nat.le_of_lt K137.out.bl) [.int .i64 0, .string ⟨#[]⟩, .string n, .slice A3 (encM g).len kA3, .slice A4 (rowOf encD ds).len kA4, .string ⟨#[]⟩, .slice A6 (encSL sq).len kA6]
               have Fs := O140.out.fin (w := w) (Nat.le_of_lt K137.out.bl) [.int .i64 0, .string ⟨#[]⟩, .string n, .slice A3 (encM g).len kA3, .slice A4 (rowOf encD ds).len kA4, .string ⟨#[]⟩, .slice A6 (encSL sq).len kA6]
               have FP := HQ.out _ _ (post_ok (a := .mk 0 eB n g ds eB sq) (by simp only [selOne, fieldR, restR, E8.out, E13.out, E105.out, E112.out, E122.out, E128.out, E136.out, if_true, if_false, Bool.false_eq_true]) ⟨[.int .i64 0, .string ⟨#[]⟩, .string n, .slice A3 (encM g).len kA3, .slice A4 (rowOf encD ds).len kA4, .string ⟨#[]⟩, .slice A6 (encSL sq).len kA6], rfl, (by rw [encS]; exact TS.int (TS.str (Nat.zero_le _) (TS.str Nn.out (TS.row Fg (TS.row Fd (TS.str (Nat.zero_le _) (TS.row Fs (TS.nil _ _))))))))⟩ f2 f3)
               exact ret_st rfl rfl rfl f1 Tryz.underlying72 ⟨_, rfl⟩ (by kernel_rfl) FP
           | false =>
             rw [hb] at h
             obtain ⟨rfl, rfl⟩ := h
             have E142 := Hd hb
             clear hb
             obtain ⟨y0, y1, y2, y3, y4, y5, y6, yz⟩ := svc K123.out.loc
             have yf0 := yz 0
             have yf1 := yz 1
             have yf2 := yz 2
             have yf3 := yz 3
             have yf4 := yz 4
             have yf5 := yz 5
             have yf6 := yz 6
             clear yz
             obtain ⟨x0, x1, x2, x3, x4, x5, x6, xz⟩ := svc K123.out.res
             have xf0 := xz 0
             have xf1 := xz 1
             have xf2 := xz 2
             have xf3 := xz 3
             have xf4 := xz 4
             have xf5 := xz 5
             have xf6 := xz 6
             clear xz
             go_wp2_with fail
             clear y0 y1 y2 y3 y4 y5 y6 yf0 yf1 yf2 yf3 yf4 yf5 yf6 x0 x1 x2 x3 x4 x5 x6 xf0 xf1 xf2 xf3 xf4 xf5 xf6
             obtain ⟨f1, f2, f3⟩ := S1.fin (ys := [.int .i64 0, .string ⟨#[]⟩, .string ⟨#[]⟩, .slice none 0 0, .slice none 0 0, .string ⟨#[]⟩, .slice none 0 0]) K123.out [.int .i64 0, .string ⟨#[]⟩, .string n, .slice A3 (encM g).len kA3, .slice A4 (rowOf encD ds).len kA4, .string ⟨#[]⟩, .slice none 0 0] rfl
             have Fg := O124.out.fin (w := w) (Nat.le_of_lt K123.out.bl) [.int .i64 0, .string ⟨#[]⟩, .string n, .slice A3 (encM g).len kA3, .slice A4 (rowOf encD ds).len kA4, .string ⟨#[]⟩, .slice none 0 0]
             have Fd := O125.out.fin (w := w) (Nat.le_of_lt K123.out.bl) [.int .i64 0, .string ⟨#[]⟩, .string n, .slice A3 (encM g).len kA3, .slice A4 (rowOf encD ds).len kA4, .string ⟨#[]⟩, .slice none 0 0]
             have FP := HQ.out _ _ (post_ok (a := .mk 0 eB n g ds eB .nil) (by simp only [selOne, fieldR, restR, E8.out, E13.out, E105.out, E112.out, E122.out, E142.out, if_false, Bool.false_eq_true]) ⟨[.int .i64 0, .string ⟨#[]⟩, .string n, .slice A3 (encM g).len kA3, .slice A4 (rowOf encD ds).len kA4, .string ⟨#[]⟩, .slice none 0 0], rfl, (by rw [encS]; exact TS.int (TS.str (Nat.zero_le _) (TS.str Nn.out (TS.row Fg (TS.row Fd (TS.str (Nat.zero_le _) (TS.row (show TP _ _ (.row (encSL .nil)) _ by rw [encSL]; exact TP.none _ _) (TS.nil _ _))))))))⟩ f2 f3)
             exact ret_st rfl rfl rfl f1 Tryz.underlying72 ⟨_, rfl⟩ (by kernel_rfl) FP
set_option maxRecDepth 100000 in
set_option maxHeartbeats 4000000 in
theorem selections_step (f d : Nat) (ts : List Tok) (r : Nat) (w : World) (HC : ∀ tq wx, GoodD tq → tq.length < ts.length → d + 1 ≤ 16 → Rd wx r tq (d + 1) → KRd r wx → Calls Tryz.prog 172 #[.pointer (some ⟨r, 0, none⟩)] wx (Post r (d + 1) wx (layS encS) (selR f (d + 1) tq)))
   (hG : GoodD ts) (hd : d ≤ 16) (hR : Rd w r ts d) (hK : KRd r w) : Calls Tryz.prog 96 #[.pointer (some ⟨r, 0, none⟩)] w (Post r d w (layR encSL) (selsR (f + 1) d ts)) := by
 suffices H : ∀ Q : Ending → World → Prop, (∀ e w', Post r d w (layR encSL) (selsR (f + 1) d ts) e w' → Q e w') → Calls Tryz.prog 96 #[.pointer (some ⟨r, 0, none⟩)] w Q from H _ (fun _ _ h => h)
 intro Q hQ
 have hmf : ∀ (fn : Fn) (first cap : Array Value) (w : World), (Instr.makeFunc fn first cap).run Tryz.prog w = .ok (.func fn first cap) w := fun _ _ _ _ => rfl
 have HQ := Hd hQ
 have HCC := Hd HC
 have B0 := Hd (And.intro hR (And.intro hK hG))
 clear hQ hR hK hG HC
 go_enter Tryz.func96, Tryz.ntmps96
 go_wp2_with fail
 refine (enter_any r ts d omB _ (by omega) B0.out.1).mono ?_
 intro e w1 h
 cases hb : atB 1 omB ts with
 | false =>
   rw [hb] at h
   simp only [Bool.false_eq_true, if_false] at h
   obtain ⟨rfl, m⟩ := h
   exact ⟨rfl, HQ.out _ _ (per (by rw [selsR, hb]; rfl) m)⟩
 | true =>
   rw [hb] at h
   simp only [if_true] at h
   by_cases h16 : d = 16
   · rw [if_pos h16] at h
     obtain ⟨rfl, m⟩ := h
     exact ⟨rfl, HQ.out _ _ (per (by rw [selsR, hb, if_pos rfl, if_pos h16]) m)⟩
   · rw [if_neg h16] at h
     obtain ⟨rfl, rr, mm⟩ := h
     have hl := (at_sfx hb).2
     have R1 := Hd (And.intro rr mm)
     have G1 := Hd (B0.out.2.2.sub (at_sfx hb).1)
     have E1 := Hd (show selsR (f + 1) d ts = serR (selR f (d + 1)) addS cmB (ts.tail.length + 1) .nil ts.tail by rw [selsR, hb, if_pos rfl, if_neg h16])
     have D1 := Hd (B0.out.2.1.moved mm)
     clear rr mm hb
     go_wp2_with fail
     refine (serS_any (selR f (d + 1)) (fun _ _ _ h => (sels_all f).2 _ _ _ _ h) r (d + 1) ts.tail w1 (fun tq wx g l hx hk _ => HCC.out tq wx g (by omega) (by omega) hx hk) G1.out R1.out.1 D1.out trivial).mono ?_
     intro e w2 h
     rw [← E1.out] at h
     cases hv : selsR (f + 1) d ts with
     | error x =>
       rw [hv] at h
       obtain ⟨rfl, m⟩ := of_err h
       exact ⟨rfl, HQ.out _ _ (per hv (R1.out.2.trans m))⟩
     | ok p =>
       obtain ⟨l, ts2⟩ := p
       rw [hv] at h
       obtain ⟨⟨v, rfl, hly⟩, r2, m2⟩ := of_ok h
       obtain ⟨A, c, rfl, hl2⟩ := row_open hly
       have F := Hd (And.intro hl2 (And.intro r2 m2))
       have HV := Hd hv
       clear h hv hly hl2 r2 m2
       go_wp2_with fail
       refine (leave_any r ts2 d _ (by omega) F.out.2.1).mono ?_
       rintro e w3 ⟨rfl, r3, m3⟩
       have hr := B0.out.1.lt
       have hs1 := R1.out.2.size
       have M3 := Hd ((R1.out.2.trans F.out.2.2).trans m3)
       have T3 := Hd (show TP w3 (Fresh w w3) (.row (encSL l)) (.slice A (encSL l).len c) from TP.keep (fun k hk => ⟨⟨Nat.le_trans hs1 hk.1, Nat.lt_of_lt_of_le hk.2 m3.size⟩, m3.block k hk.2 (fun e => by have := hk.1; injection e; omega)⟩) _ _ F.out.1)
       have R3 := Hd r3
       clear r3 m3
       go_wp2_with fail
       exact HQ.out _ _ (post_ok HV.out T3.out R3.out M3.out)
theorem sel_all : ∀ f : Nat, (∀ (d : Nat) (ts : List Tok) (r : Nat) (w : World), 2 * ts.length + 1 ≤ f → GoodD ts → d ≤ 16 → Rd w r ts d → KRd r w → Calls Tryz.prog 96 #[.pointer (some ⟨r, 0, none⟩)] w (Post r d w (layR encSL) (selsR f d ts))) ∧
   (∀ (d : Nat) (ts : List Tok) (r : Nat) (w : World), 2 * ts.length + 2 ≤ f → GoodD ts → d ≤ 16 → Rd w r ts d → KRd r w → Calls Tryz.prog 172 #[.pointer (some ⟨r, 0, none⟩)] w (Post r d w (layS encS) (selR f d ts))) := by
 intro f
 induction f with
 | zero => exact ⟨fun _ _ _ _ h => by omega, fun _ _ _ _ h => by omega⟩
 | succ f ih =>
   obtain ⟨i1, i2⟩ := ih
   refine ⟨fun d ts r w h hG hd hR hK => selections_step f d ts r w (fun tq wx g l hd hx hk => i2 (d + 1) tq r wx (by omega) g hd hx hk) hG hd hR hK, fun d ts r w h hG hd hR hK => ?_⟩
   rw [selR]
   exact selection_one (selsR f d) (fun _ _ _ h => (sels_all f).1 _ _ _ _ h) d ts r w (fun tq wx g l hx hk => i1 d tq r wx (by omega) g hd hx hk) hG hd hR hK
theorem sels_any (d : Nat) (ts : List Tok) (r : Nat) (w : World) (hG : GoodD ts) (hd : d ≤ 16) (hR : Rd w r ts d) (hK : KRd r w) : Calls Tryz.prog 96 #[.pointer (some ⟨r, 0, none⟩)] w (Post r d w (layR encSL) (selsD d ts)) := by
 have := (sel_all (2 * ts.length + 1)).1 d ts r w (Nat.le_refl _) hG hd hR hK
 rwa [show selsR (2 * ts.length + 1) d ts = selsD d ts from ((sels_fuel _).1 _ _ _ (Nat.lt_succ_self _) (by omega)).symm] at this
theorem gfv_cells {w : World} {b : Nat} {z0 z1 z2 z3 z4 : Value} {t : TypeId} (h : w.heap[b]? = some (.cells #[z0, z1, z2, z3, z4] t (0, 0))) : w.cell? ⟨b, 0, none⟩ = some z0 ∧ w.cell? ⟨b, 1, none⟩ = some z1 ∧ w.cell? ⟨b, 2, none⟩ = some z2 ∧ w.cell? ⟨b, 3, none⟩ = some z3 ∧ w.cell? ⟨b, 4, none⟩ = some z4 ∧ ∀ i, w.frozen? ⟨b, i, none⟩ = false := by
 refine ⟨?_, ?_, ?_, ?_, ?_, fun i => ?_⟩
 all_goals first | (simp only [World.cell?, h]; rfl) | simp [World.frozen?, h]
set_option maxRecDepth 100000 in
set_option maxHeartbeats 8000000 in
theorem op_any (k : Int) (d : Nat) (ts : List Tok) (r : Nat) (w : World) (hG : GoodD ts) (hd : d ≤ 16) (hR : Rd w r ts d) (hK : KRd r w) : Calls Tryz.prog 98 #[.pointer (some ⟨r, 0, none⟩), .int .i64 k] w (Post r d w (layS encOp) (opR k d ts)) := by
 suffices H : ∀ Q : Ending → World → Prop, (∀ e w', Post r d w (layS encOp) (opR k d ts) e w' → Q e w') → Calls Tryz.prog 98 #[.pointer (some ⟨r, 0, none⟩), .int .i64 k] w Q from H _ (fun _ _ h => h)
 intro Q hQ
 have HQ := Hd hQ
 have hmf : ∀ (fn : Fn) (first cap : Array Value) (w : World), (Instr.makeFunc fn first cap).run Tryz.prog w = .ok (.func fn first cap) w := fun _ _ _ _ => rfl
 have K0 := Hd (S0.start hR hK #[.int .i64 0, .string ⟨#[]⟩, .slice none 0 0, .slice none 0 0, .slice none 0 0] 68)
 have G0 := Hd hG
 clear hQ hR hK hG
 go_enter Tryz.func98, Tryz.ntmps98
 go_wp2_with fail
 have K1 := Hd (S1.make1 K0.out #[.int .i64 k, .string ⟨#[]⟩, .slice none 0 0, .slice none 0 0, .slice none 0 0] 68)
 refine (atWord_any r ts d _ K1.out.rd).mono ?_
 intro e w2 h
 cases hb : wordB ts with
 | true =>
   rw [hb] at h
   obtain ⟨rfl, rfl⟩ := h
   obtain ⟨nm3, nt3, hn3⟩ := word_some hb
   have E4 := Hd hn3
   clear hb hn3
   go_wp2_with fail
   refine (pname_any r (ts) d _ K1.out.rd).mono ?_
   intro e w5 h
   rw [E4.out] at h
   obtain ⟨rfl, rr, mm⟩ := h
   have Nnm3 := Hd (G0.out.name E4.out)
   have G6 := Hd (G0.out.sub (name_sfx E4.out).1)
   have K7 := Hd (K1.out.next rr mm)
   clear rr mm
   obtain ⟨y0, y1, y2, y3, y4, yz⟩ := gfv_cells K7.out.loc
   have yf0 := yz 0
   have yf1 := yz 1
   have yf2 := yz 2
   have yf3 := yz 3
   have yf4 := yz 4
   clear yz
   go_wp2_with fail
   clear y0 y1 y2 y3 y4 yf0 yf1 yf2 yf3 yf4
   have K8 : Hid (S1 w r (w5.setCell ⟨w.heap.size + 1, 1, none⟩ (.string nm3)) _ (w.heap.size + 1) (.cells #[.int .i64 k, .string nm3, .slice none 0 0, .slice none 0 0, .slice none 0 0] 68 (0, 0)) _ d) := Hd (K7.out.put 1 (.string nm3))
   generalize (w5.setCell ⟨w.heap.size + 1, 1, none⟩ (.string nm3)) = wz9 at K8 ⊢
   refine (skip_any r nt3 d 1 opB _ K8.out.rd).mono ?_
   intro e w10 h
   cases hb : atB 1 opB nt3 with
   | true =>
     rw [hb] at h
     obtain ⟨rfl, rr, mm⟩ := h
     rw [skip_yes hb] at rr
     have G11 := Hd (G6.out.sub (at_sfx hb).1)
     have E12 := Hd hb
     have K13 := Hd (K8.out.next rr mm)
     clear rr mm hb
     go_wp2_with fail
     refine (serV_any (varR d) (fun _ _ _ h => var_sfx h) r d (nt3.tail) _ (fun tq wx g _ hx hk _ => variable_any d tq r wx g hd hx hk) G11.out K13.out.rd K13.out.k trivial).mono ?_
     intro e w14 h
     cases hv : serR (varR d) addL cpB (((nt3.tail)).length + 1) [] (nt3.tail) with
     | error x =>
       rw [hv] at h
       obtain ⟨rfl, m⟩ := of_err h
       exact ⟨rfl, HQ.out _ _ (per (by simp only [opR, opRest, varsR, E4.out, E12.out, hv, if_true]) (K13.out.mv.trans m))⟩
     | ok p =>
       obtain ⟨vs, tp14⟩ := p
       rw [hv] at h
       obtain ⟨⟨v, rfl, hl⟩, rr, mm⟩ := of_ok h
       obtain ⟨A2, kA2, rfl, hts⟩ := row_open hl
       have G15 := Hd (G11.out.sub (ser_sfx (fun _ _ _ h => var_sfx h) _ _ _ _ _ hv).1)
       have K16 := Hd (K13.out.next rr mm)
       have O17 := Hd (Ov.of hts K13.out.blt)
       have E18 := Hd hv
       clear rr mm hv hl hts h
       obtain ⟨y0, y1, y2, y3, y4, yz⟩ := gfv_cells K16.out.loc
       have yf0 := yz 0
       have yf1 := yz 1
       have yf2 := yz 2
       have yf3 := yz 3
       have yf4 := yz 4
       clear yz
       go_wp2_with fail
       clear y0 y1 y2 y3 y4 yf0 yf1 yf2 yf3 yf4
       have K19 : Hid (S1 w r (w14.setCell ⟨w.heap.size + 1, 2, none⟩ (.slice A2 (rowOf encVar vs).len kA2)) _ (w.heap.size + 1) (.cells #[.int .i64 k, .string nm3, .slice A2 (rowOf encVar vs).len kA2, .slice none 0 0, .slice none 0 0] 68 (0, 0)) _ d) := Hd (K16.out.put 2 (.slice A2 (rowOf encVar vs).len kA2))
       have O20 : Hid (Ov (w.heap.size + 1) (w14.setCell ⟨w.heap.size + 1, 2, none⟩ (.slice A2 (rowOf encVar vs).len kA2)) _ _) := Hd (O17.out.put (i := 2) (v := .slice A2 (rowOf encVar vs).len kA2) (Nat.le_refl _))
       generalize (w14.setCell ⟨w.heap.size + 1, 2, none⟩ (.slice A2 (rowOf encVar vs).len kA2)) = wz21 at K19 O20 ⊢
       refine (dirs_any true d (tp14) r _ G15.out hd K19.out.rd K19.out.k).mono ?_
       intro e w22 h
       cases hv : dirsR true d (tp14) with
       | error x =>
         rw [hv] at h
         obtain ⟨rfl, m⟩ := of_err h
         exact ⟨rfl, HQ.out _ _ (per (by simp only [opR, opRest, varsR, E4.out, E12.out, E18.out, hv, if_true]) (K19.out.mv.trans m))⟩
       | ok p =>
         obtain ⟨ds, tp22⟩ := p
         rw [hv] at h
         obtain ⟨⟨v, rfl, hl⟩, rr, mm⟩ := of_ok h
         obtain ⟨A3, kA3, rfl, hts⟩ := row_open hl
         have G23 := Hd (G15.out.sub (dirs_sfx hv))
         have K24 := Hd (K19.out.next rr mm)
         have O25 := Hd (O20.out.next mm K19.out.rb)
         have O26 := Hd (Ov.of hts K19.out.blt)
         have E27 := Hd hv
         clear rr mm hv hl hts h
         obtain ⟨y0, y1, y2, y3, y4, yz⟩ := gfv_cells K24.out.loc
         have yf0 := yz 0
         have yf1 := yz 1
         have yf2 := yz 2
         have yf3 := yz 3
         have yf4 := yz 4
         clear yz
         go_wp2_with fail
         clear y0 y1 y2 y3 y4 yf0 yf1 yf2 yf3 yf4
         have K28 : Hid (S1 w r (w22.setCell ⟨w.heap.size + 1, 3, none⟩ (.slice A3 (rowOf encD ds).len kA3)) _ (w.heap.size + 1) (.cells #[.int .i64 k, .string nm3, .slice A2 (rowOf encVar vs).len kA2, .slice A3 (rowOf encD ds).len kA3, .slice none 0 0] 68 (0, 0)) _ d) := Hd (K24.out.put 3 (.slice A3 (rowOf encD ds).len kA3))
         have O29 : Hid (Ov (w.heap.size + 1) (w22.setCell ⟨w.heap.size + 1, 3, none⟩ (.slice A3 (rowOf encD ds).len kA3)) _ _) := Hd (O25.out.put (i := 3) (v := .slice A3 (rowOf encD ds).len kA3) (Nat.le_refl _))
         have O30 : Hid (Ov (w.heap.size + 1) (w22.setCell ⟨w.heap.size + 1, 3, none⟩ (.slice A3 (rowOf encD ds).len kA3)) _ _) := Hd (O26.out.put (i := 3) (v := .slice A3 (rowOf encD ds).len kA3) (Nat.le_refl _))
         generalize (w22.setCell ⟨w.heap.size + 1, 3, none⟩ (.slice A3 (rowOf encD ds).len kA3)) = wz31 at K28 O29 O30 ⊢
         refine (sels_any d (tp22) r _ G23.out hd K28.out.rd K28.out.k).mono ?_
         intro e w32 h
         cases hv : selsD d (tp22) with
         | error x =>
           rw [hv] at h
           obtain ⟨rfl, m⟩ := of_err h
           exact ⟨rfl, HQ.out _ _ (per (by simp only [opR, opRest, varsR, E4.out, E12.out, E18.out, E27.out, hv, if_true]) (K28.out.mv.trans m))⟩
         | ok p =>
           obtain ⟨sq, tp32⟩ := p
           rw [hv] at h
           obtain ⟨⟨v, rfl, hl⟩, rr, mm⟩ := of_ok h
           obtain ⟨A4, kA4, rfl, hts⟩ := row_open hl
           have G33 := Hd (G23.out.sub (sels_sfx hv).1)
           have K34 := Hd (K28.out.next rr mm)
           have O35 := Hd (O29.out.next mm K28.out.rb)
           have O36 := Hd (O30.out.next mm K28.out.rb)
           have O37 := Hd (Ov.of hts K28.out.blt)
           have E38 := Hd hv
           clear rr mm hv hl hts h
           obtain ⟨y0, y1, y2, y3, y4, yz⟩ := gfv_cells K34.out.loc
           have yf0 := yz 0
           have yf1 := yz 1
           have yf2 := yz 2
           have yf3 := yz 3
           have yf4 := yz 4
           clear yz
           obtain ⟨x0, x1, x2, x3, x4, xz⟩ := gfv_cells K34.out.res
           have xf0 := xz 0
           have xf1 := xz 1
           have xf2 := xz 2
           have xf3 := xz 3
           have xf4 := xz 4
           clear xz
           go_wp2_with fail
           clear y0 y1 y2 y3 y4 yf0 yf1 yf2 yf3 yf4 x0 x1 x2 x3 x4 xf0 xf1 xf2 xf3 xf4
           have K39 : Hid (S1 w r (w32.setCell ⟨w.heap.size + 1, 4, none⟩ (.slice A4 (encSL sq).len kA4)) _ (w.heap.size + 1) (.cells #[.int .i64 k, .string nm3, .slice A2 (rowOf encVar vs).len kA2, .slice A3 (rowOf encD ds).len kA3, .slice A4 (encSL sq).len kA4] 68 (0, 0)) _ d) := Hd (K34.out.put 4 (.slice A4 (encSL sq).len kA4))
           have O40 : Hid (Ov (w.heap.size + 1) (w32.setCell ⟨w.heap.size + 1, 4, none⟩ (.slice A4 (encSL sq).len kA4)) _ _) := Hd (O35.out.put (i := 4) (v := .slice A4 (encSL sq).len kA4) (Nat.le_refl _))
           have O41 : Hid (Ov (w.heap.size + 1) (w32.setCell ⟨w.heap.size + 1, 4, none⟩ (.slice A4 (encSL sq).len kA4)) _ _) := Hd (O36.out.put (i := 4) (v := .slice A4 (encSL sq).len kA4) (Nat.le_refl _))
           have O42 : Hid (Ov (w.heap.size + 1) (w32.setCell ⟨w.heap.size + 1, 4, none⟩ (.slice A4 (encSL sq).len kA4)) _ _) := Hd (O37.out.put (i := 4) (v := .slice A4 (encSL sq).len kA4) (Nat.le_refl _))
           obtain ⟨f1, f2, f3⟩ := S1.fin (ys := [.int .i64 0, .string ⟨#[]⟩, .slice none 0 0, .slice none 0 0, .slice none 0 0]) K39.out [.int .i64 k, .string nm3, .slice A2 (rowOf encVar vs).len kA2, .slice A3 (rowOf encD ds).len kA3, .slice A4 (encSL sq).len kA4] rfl
           have Fv := O40.out.fin (w := w) (Nat.le_of_lt K39.out.bl) [.int .i64 k, .string nm3, .slice A2 (rowOf encVar vs).len kA2, .slice A3 (rowOf encD ds).len kA3, .slice A4 (encSL sq).len kA4]
           have Fd := O41.out.fin (w := w) (Nat.le_of_lt K39.out.bl) [.int .i64 k, .string nm3, .slice A2 (rowOf encVar vs).len kA2, .slice A3 (rowOf encD ds).len kA3, .slice A4 (encSL sq).len kA4]
           have Fs := O42.out.fin (w := w) (Nat.le_of_lt K39.out.bl) [.int .i64 k, .string nm3, .slice A2 (rowOf encVar vs).len kA2, .slice A3 (rowOf encD ds).len kA3, .slice A4 (encSL sq).len kA4]
           have FP := HQ.out _ _ (post_ok (a := ⟨k, nm3, vs, ds, sq⟩) (by simp only [opR, opRest, varsR, E4.out, E12.out, E18.out, E27.out, E38.out, if_true]) ⟨[.int .i64 k, .string nm3, .slice A2 (rowOf encVar vs).len kA2, .slice A3 (rowOf encD ds).len kA3, .slice A4 (encSL sq).len kA4], rfl, TS.int (TS.str Nnm3.out (TS.row Fv (TS.row Fd (TS.row Fs (TS.nil _ _)))))⟩ f2 f3)
           exact ret_st rfl rfl rfl f1 Tryz.underlying68 ⟨_, rfl⟩ (by kernel_rfl) FP
   | false =>
     rw [hb] at h
     obtain ⟨rfl, rr, mm⟩ := h
     rw [skip_no hb] at rr
     have E43 := Hd hb
     have K44 := Hd (K8.out.next rr mm)
     clear rr mm hb
     go_wp2_with fail
     refine (dirs_any true d (nt3) r _ G6.out hd K44.out.rd K44.out.k).mono ?_
     intro e w45 h
     cases hv : dirsR true d (nt3) with
     | error x =>
       rw [hv] at h
       obtain ⟨rfl, m⟩ := of_err h
       exact ⟨rfl, HQ.out _ _ (per (by simp only [opR, opRest, varsR, E4.out, E43.out, hv, if_false, Bool.false_eq_true]) (K44.out.mv.trans m))⟩
     | ok p =>
       obtain ⟨ds, tp45⟩ := p
       rw [hv] at h
       obtain ⟨⟨v, rfl, hl⟩, rr, mm⟩ := of_ok h
       obtain ⟨A3, kA3, rfl, hts⟩ := row_open hl
       have G46 := Hd (G6.out.sub (dirs_sfx hv))
       have K47 := Hd (K44.out.next rr mm)
       have O48 := Hd (Ov.of hts K44.out.blt)
       have E49 := Hd hv
       clear rr mm hv hl hts h
       obtain ⟨y0, y1, y2, y3, y4, yz⟩ := gfv_cells K47.out.loc
       have yf0 := yz 0
       have yf1 := yz 1
       have yf2 := yz 2
       have yf3 := yz 3
       have yf4 := yz 4
       clear yz
       go_wp2_with fail
       clear y0 y1 y2 y3 y4 yf0 yf1 yf2 yf3 yf4
       have K50 : Hid (S1 w r (w45.setCell ⟨w.heap.size + 1, 3, none⟩ (.slice A3 (rowOf encD ds).len kA3)) _ (w.heap.size + 1) (.cells #[.int .i64 k, .string nm3, .slice none 0 0, .slice A3 (rowOf encD ds).len kA3, .slice none 0 0] 68 (0, 0)) _ d) := Hd (K47.out.put 3 (.slice A3 (rowOf encD ds).len kA3))
       have O51 : Hid (Ov (w.heap.size + 1) (w45.setCell ⟨w.heap.size + 1, 3, none⟩ (.slice A3 (rowOf encD ds).len kA3)) _ _) := Hd (O48.out.put (i := 3) (v := .slice A3 (rowOf encD ds).len kA3) (Nat.le_refl _))
       generalize (w45.setCell ⟨w.heap.size + 1, 3, none⟩ (.slice A3 (rowOf encD ds).len kA3)) = wz52 at K50 O51 ⊢
       refine (sels_any d (tp45) r _ G46.out hd K50.out.rd K50.out.k).mono ?_
       intro e w53 h
       cases hv : selsD d (tp45) with
       | error x =>
         rw [hv] at h
         obtain ⟨rfl, m⟩ := of_err h
         exact ⟨rfl, HQ.out _ _ (per (by simp only [opR, opRest, varsR, E4.out, E43.out, E49.out, hv, if_false, Bool.false_eq_true]) (K50.out.mv.trans m))⟩
       | ok p =>
         obtain ⟨sq, tp53⟩ := p
         rw [hv] at h
         obtain ⟨⟨v, rfl, hl⟩, rr, mm⟩ := of_ok h
         obtain ⟨A4, kA4, rfl, hts⟩ := row_open hl
         have G54 := Hd (G46.out.sub (sels_sfx hv).1)
         have K55 := Hd (K50.out.next rr mm)
         have O56 := Hd (O51.out.next mm K50.out.rb)
         have O57 := Hd (Ov.of hts K50.out.blt)
         have E58 := Hd hv
         clear rr mm hv hl hts h
         obtain ⟨y0, y1, y2, y3, y4, yz⟩ := gfv_cells K55.out.loc
         have yf0 := yz 0
         have yf1 := yz 1
         have yf2 := yz 2
         have yf3 := yz 3
         have yf4 := yz 4
         clear yz
         obtain ⟨x0, x1, x2, x3, x4, xz⟩ := gfv_cells K55.out.res
         have xf0 := xz 0
         have xf1 := xz 1
         have xf2 := xz 2
         have xf3 := xz 3
         have xf4 := xz 4
         clear xz
         go_wp2_with fail
         clear y0 y1 y2 y3 y4 yf0 yf1 yf2 yf3 yf4 x0 x1 x2 x3 x4 xf0 xf1 xf2 xf3 xf4
         have K59 : Hid (S1 w r (w53.setCell ⟨w.heap.size + 1, 4, none⟩ (.slice A4 (encSL sq).len kA4)) _ (w.heap.size + 1) (.cells #[.int .i64 k, .string nm3, .slice none 0 0, .slice A3 (rowOf encD ds).len kA3, .slice A4 (encSL sq).len kA4] 68 (0, 0)) _ d) := Hd (K55.out.put 4 (.slice A4 (encSL sq).len kA4))
         have O60 : Hid (Ov (w.heap.size + 1) (w53.setCell ⟨w.heap.size + 1, 4, none⟩ (.slice A4 (encSL sq).len kA4)) _ _) := Hd (O56.out.put (i := 4) (v := .slice A4 (encSL sq).len kA4) (Nat.le_refl _))
         have O61 : Hid (Ov (w.heap.size + 1) (w53.setCell ⟨w.heap.size + 1, 4, none⟩ (.slice A4 (encSL sq).len kA4)) _ _) := Hd (O57.out.put (i := 4) (v := .slice A4 (encSL sq).len kA4) (Nat.le_refl _))
         obtain ⟨f1, f2, f3⟩ := S1.fin (ys := [.int .i64 0, .string ⟨#[]⟩, .slice none 0 0, .slice none 0 0, .slice none 0 0]) K59.out [.int .i64 k, .string nm3, .slice none 0 0, .slice A3 (rowOf encD ds).len kA3, .slice A4 (encSL sq).len kA4] rfl
         have Fd := O60.out.fin (w := w) (Nat.le_of_lt K59.out.bl) [.int .i64 k, .string nm3, .slice none 0 0, .slice A3 (rowOf encD ds).len kA3, .slice A4 (encSL sq).len kA4]
         have Fs := O61.out.fin (w := w) (Nat.le_of_lt K59.out.bl) [.int .i64 k, .string nm3, .slice none 0 0, .slice A3 (rowOf encD ds).len kA3, .slice A4 (encSL sq).len kA4]
         have FP := HQ.out _ _ (post_ok (a := ⟨k, nm3, [], ds, sq⟩) (by simp only [opR, opRest, varsR, E4.out, E43.out, E49.out, E58.out, if_false, Bool.false_eq_true]) ⟨[.int .i64 k, .string nm3, .slice none 0 0, .slice A3 (rowOf encD ds).len kA3, .slice A4 (encSL sq).len kA4], rfl, TS.int (TS.str Nnm3.out (TS.row (show TP _ _ (.row (rowOf encVar [])) _ from TP.none _ _) (TS.row Fd (TS.row Fs (TS.nil _ _)))))⟩ f2 f3)
         exact ret_st rfl rfl rfl f1 Tryz.underlying68 ⟨_, rfl⟩ (by kernel_rfl) FP
 | false =>
   rw [hb] at h
   obtain ⟨rfl, rfl⟩ := h
   have hn62 := word_none hb
   have E63 := Hd hn62
   clear hb hn62
   go_wp2_with fail
   refine (skip_any r ts d 1 opB _ K1.out.rd).mono ?_
   intro e w64 h
   cases hb : atB 1 opB ts with
   | true =>
     rw [hb] at h
     obtain ⟨rfl, rr, mm⟩ := h
     rw [skip_yes hb] at rr
     have G65 := Hd (G0.out.sub (at_sfx hb).1)
     have E66 := Hd hb
     have K67 := Hd (K1.out.next rr mm)
     clear rr mm hb
     go_wp2_with fail
     refine (serV_any (varR d) (fun _ _ _ h => var_sfx h) r d (ts.tail) _ (fun tq wx g _ hx hk _ => variable_any d tq r wx g hd hx hk) G65.out K67.out.rd K67.out.k trivial).mono ?_
     intro e w68 h
     cases hv : serR (varR d) addL cpB (((ts.tail)).length + 1) [] (ts.tail) with
     | error x =>
       rw [hv] at h
       obtain ⟨rfl, m⟩ := of_err h
       exact ⟨rfl, HQ.out _ _ (per (by simp only [opR, opRest, varsR, E63.out, E66.out, hv, if_true]) (K67.out.mv.trans m))⟩
     | ok p =>
       obtain ⟨vs, tp68⟩ := p
       rw [hv] at h
       obtain ⟨⟨v, rfl, hl⟩, rr, mm⟩ := of_ok h
       obtain ⟨A2, kA2, rfl, hts⟩ := row_open hl
       have G69 := Hd (G65.out.sub (ser_sfx (fun _ _ _ h => var_sfx h) _ _ _ _ _ hv).1)
       have K70 := Hd (K67.out.next rr mm)
       have O71 := Hd (Ov.of hts K67.out.blt)
       have E72 := Hd hv
       clear rr mm hv hl hts h
       obtain ⟨y0, y1, y2, y3, y4, yz⟩ := gfv_cells K70.out.loc
       have yf0 := yz 0
       have yf1 := yz 1
       have yf2 := yz 2
       have yf3 := yz 3
       have yf4 := yz 4
       clear yz
       go_wp2_with fail
       clear y0 y1 y2 y3 y4 yf0 yf1 yf2 yf3 yf4
       have K73 : Hid (S1 w r (w68.setCell ⟨w.heap.size + 1, 2, none⟩ (.slice A2 (rowOf encVar vs).len kA2)) _ (w.heap.size + 1) (.cells #[.int .i64 k, .string ⟨#[]⟩, .slice A2 (rowOf encVar vs).len kA2, .slice none 0 0, .slice none 0 0] 68 (0, 0)) _ d) := Hd (K70.out.put 2 (.slice A2 (rowOf encVar vs).len kA2))
       have O74 : Hid (Ov (w.heap.size + 1) (w68.setCell ⟨w.heap.size + 1, 2, none⟩ (.slice A2 (rowOf encVar vs).len kA2)) _ _) := Hd (O71.out.put (i := 2) (v := .slice A2 (rowOf encVar vs).len kA2) (Nat.le_refl _))
       generalize (w68.setCell ⟨w.heap.size + 1, 2, none⟩ (.slice A2 (rowOf encVar vs).len kA2)) = wz75 at K73 O74 ⊢
       refine (dirs_any true d (tp68) r _ G69.out hd K73.out.rd K73.out.k).mono ?_
       intro e w76 h
       cases hv : dirsR true d (tp68) with
       | error x =>
         rw [hv] at h
         obtain ⟨rfl, m⟩ := of_err h
         exact ⟨rfl, HQ.out _ _ (per (by simp only [opR, opRest, varsR, E63.out, E66.out, E72.out, hv, if_true]) (K73.out.mv.trans m))⟩
       | ok p =>
         obtain ⟨ds, tp76⟩ := p
         rw [hv] at h
         obtain ⟨⟨v, rfl, hl⟩, rr, mm⟩ := of_ok h
         obtain ⟨A3, kA3, rfl, hts⟩ := row_open hl
         have G77 := Hd (G69.out.sub (dirs_sfx hv))
         have K78 := Hd (K73.out.next rr mm)
         have O79 := Hd (O74.out.next mm K73.out.rb)
         have O80 := Hd (Ov.of hts K73.out.blt)
         have E81 := Hd hv
         clear rr mm hv hl hts h
         obtain ⟨y0, y1, y2, y3, y4, yz⟩ := gfv_cells K78.out.loc
         have yf0 := yz 0
         have yf1 := yz 1
         have yf2 := yz 2
         have yf3 := yz 3
         have yf4 := yz 4
         clear yz
         go_wp2_with fail
         clear y0 y1 y2 y3 y4 yf0 yf1 yf2 yf3 yf4
         have K82 : Hid (S1 w r (w76.setCell ⟨w.heap.size + 1, 3, none⟩ (.slice A3 (rowOf encD ds).len kA3)) _ (w.heap.size + 1) (.cells #[.int .i64 k, .string ⟨#[]⟩, .slice A2 (rowOf encVar vs).len kA2, .slice A3 (rowOf encD ds).len kA3, .slice none 0 0] 68 (0, 0)) _ d) := Hd (K78.out.put 3 (.slice A3 (rowOf encD ds).len kA3))
         have O83 : Hid (Ov (w.heap.size + 1) (w76.setCell ⟨w.heap.size + 1, 3, none⟩ (.slice A3 (rowOf encD ds).len kA3)) _ _) := Hd (O79.out.put (i := 3) (v := .slice A3 (rowOf encD ds).len kA3) (Nat.le_refl _))
         have O84 : Hid (Ov (w.heap.size + 1) (w76.setCell ⟨w.heap.size + 1, 3, none⟩ (.slice A3 (rowOf encD ds).len kA3)) _ _) := Hd (O80.out.put (i := 3) (v := .slice A3 (rowOf encD ds).len kA3) (Nat.le_refl _))
         generalize (w76.setCell ⟨w.heap.size + 1, 3, none⟩ (.slice A3 (rowOf encD ds).len kA3)) = wz85 at K82 O83 O84 ⊢
         refine (sels_any d (tp76) r _ G77.out hd K82.out.rd K82.out.k).mono ?_
         intro e w86 h
         cases hv : selsD d (tp76) with
         | error x =>
           rw [hv] at h
           obtain ⟨rfl, m⟩ := of_err h
           exact ⟨rfl, HQ.out _ _ (per (by simp only [opR, opRest, varsR, E63.out, E66.out, E72.out, E81.out, hv, if_true]) (K82.out.mv.trans m))⟩
         | ok p =>
           obtain ⟨sq, tp86⟩ := p
           rw [hv] at h
           obtain ⟨⟨v, rfl, hl⟩, rr, mm⟩ := of_ok h
           obtain ⟨A4, kA4, rfl, hts⟩ := row_open hl
           have G87 := Hd (G77.out.sub (sels_sfx hv).1)
           have K88 := Hd (K82.out.next rr mm)
           have O89 := Hd (O83.out.next mm K82.out.rb)
           have O90 := Hd (O84.out.next mm K82.out.rb)
           have O91 := Hd (Ov.of hts K82.out.blt)
           have E92 := Hd hv
           clear rr mm hv hl hts h
           obtain ⟨y0, y1, y2, y3, y4, yz⟩ := gfv_cells K88.out.loc
           have yf0 := yz 0
           have yf1 := yz 1
           have yf2 := yz 2
           have yf3 := yz 3
           have yf4 := yz 4
           clear yz
           obtain ⟨x0, x1, x2, x3, x4, xz⟩ := gfv_cells K88.out.res
           have xf0 := xz 0
           have xf1 := xz 1
           have xf2 := xz 2
           have xf3 := xz 3
           have xf4 := xz 4
           clear xz
           go_wp2_with fail
           clear y0 y1 y2 y3 y4 yf0 yf1 yf2 yf3 yf4 x0 x1 x2 x3 x4 xf0 xf1 xf2 xf3 xf4
           have K93 : Hid (S1 w r (w86.setCell ⟨w.heap.size + 1, 4, none⟩ (.slice A4 (encSL sq).len kA4)) _ (w.heap.size + 1) (.cells #[.int .i64 k, .string ⟨#[]⟩, .slice A2 (rowOf encVar vs).len kA2, .slice A3 (rowOf encD ds).len kA3, .slice A4 (encSL sq).len kA4] 68 (0, 0)) _ d) := Hd (K88.out.put 4 (.slice A4 (encSL sq).len kA4))
           have O94 : Hid (Ov (w.heap.size + 1) (w86.setCell ⟨w.heap.size + 1, 4, none⟩ (.slice A4 (encSL sq).len kA4)) _ _) := Hd (O89.out.put (i := 4) (v := .slice A4 (encSL sq).len kA4) (Nat.le_refl _))
           have O95 : Hid (Ov (w.heap.size + 1) (w86.setCell ⟨w.heap.size + 1, 4, none⟩ (.slice A4 (encSL sq).len kA4)) _ _) := Hd (O90.out.put (i := 4) (v := .slice A4 (encSL sq).len kA4) (Nat.le_refl _))
           have O96 : Hid (Ov (w.heap.size + 1) (w86.setCell ⟨w.heap.size + 1, 4, none⟩ (.slice A4 (encSL sq).len kA4)) _ _) := Hd (O91.out.put (i := 4) (v := .slice A4 (encSL sq).len kA4) (Nat.le_refl _))
           obtain ⟨f1, f2, f3⟩ := S1.fin (ys := [.int .i64 0, .string ⟨#[]⟩, .slice none 0 0, .slice none 0 0, .slice none 0 0]) K93.out [.int .i64 k, .string ⟨#[]⟩, .slice A2 (rowOf encVar vs).len kA2, .slice A3 (rowOf encD ds).len kA3, .slice A4 (encSL sq).len kA4] rfl
           have Fv := O94.out.fin (w := w) (Nat.le_of_lt K93.out.bl) [.int .i64 k, .string ⟨#[]⟩, .slice A2 (rowOf encVar vs).len kA2, .slice A3 (rowOf encD ds).len kA3, .slice A4 (encSL sq).len kA4]
           have Fd := O95.out.fin (w := w) (Nat.le_of_lt K93.out.bl) [.int .i64 k, .string ⟨#[]⟩, .slice A2 (rowOf encVar vs).len kA2, .slice A3 (rowOf encD ds).len kA3, .slice A4 (encSL sq).len kA4]
           have Fs := O96.out.fin (w := w) (Nat.le_of_lt K93.out.bl) [.int .i64 k, .string ⟨#[]⟩, .slice A2 (rowOf encVar vs).len kA2, .slice A3 (rowOf encD ds).len kA3, .slice A4 (encSL sq).len kA4]
           have FP := HQ.out _ _ (post_ok (a := ⟨k, eB, vs, ds, sq⟩) (by simp only [opR, opRest, varsR, E63.out, E66.out, E72.out, E81.out, E92.out, if_true]) ⟨[.int .i64 k, .string ⟨#[]⟩, .slice A2 (rowOf encVar vs).len kA2, .slice A3 (rowOf encD ds).len kA3, .slice A4 (encSL sq).len kA4], rfl, TS.int (TS.str (Nat.zero_le _) (TS.row Fv (TS.row Fd (TS.row Fs (TS.nil _ _)))))⟩ f2 f3)
           exact ret_st rfl rfl rfl f1 Tryz.underlying68 ⟨_, rfl⟩ (by kernel_rfl) FP
   | false =>
     rw [hb] at h
     obtain ⟨rfl, rr, mm⟩ := h
     rw [skip_no hb] at rr
     have E97 := Hd hb
     have K98 := Hd (K1.out.next rr mm)
     clear rr mm hb
     go_wp2_with fail
     refine (dirs_any true d (ts) r _ G0.out hd K98.out.rd K98.out.k).mono ?_
     intro e w99 h
     cases hv : dirsR true d (ts) with
     | error x =>
       rw [hv] at h
       obtain ⟨rfl, m⟩ := of_err h
       exact ⟨rfl, HQ.out _ _ (per (by simp only [opR, opRest, varsR, E63.out, E97.out, hv, if_false, Bool.false_eq_true]) (K98.out.mv.trans m))⟩
     | ok p =>
       obtain ⟨ds, tp99⟩ := p
       rw [hv] at h
       obtain ⟨⟨v, rfl, hl⟩, rr, mm⟩ := of_ok h
       obtain ⟨A3, kA3, rfl, hts⟩ := row_open hl
       have G100 := Hd (G0.out.sub (dirs_sfx hv))
       have K101 := Hd (K98.out.next rr mm)
       have O102 := Hd (Ov.of hts K98.out.blt)
       have E103 := Hd hv
       clear rr mm hv hl hts h
       obtain ⟨y0, y1, y2, y3, y4, yz⟩ := gfv_cells K101.out.loc
       have yf0 := yz 0
       have yf1 := yz 1
       have yf2 := yz 2
       have yf3 := yz 3
       have yf4 := yz 4
       clear yz
       go_wp2_with fail
       clear y0 y1 y2 y3 y4 yf0 yf1 yf2 yf3 yf4
       have K104 : Hid (S1 w r (w99.setCell ⟨w.heap.size + 1, 3, none⟩ (.slice A3 (rowOf encD ds).len kA3)) _ (w.heap.size + 1) (.cells #[.int .i64 k, .string ⟨#[]⟩, .slice none 0 0, .slice A3 (rowOf encD ds).len kA3, .slice none 0 0] 68 (0, 0)) _ d) := Hd (K101.out.put 3 (.slice A3 (rowOf encD ds).len kA3))
       have O105 : Hid (Ov (w.heap.size + 1) (w99.setCell ⟨w.heap.size + 1, 3, none⟩ (.slice A3 (rowOf encD ds).len kA3)) _ _) := Hd (O102.out.put (i := 3) (v := .slice A3 (rowOf encD ds).len kA3) (Nat.le_refl _))
       generalize (w99.setCell ⟨w.heap.size + 1, 3, none⟩ (.slice A3 (rowOf encD ds).len kA3)) = wz106 at K104 O105 ⊢
       refine (sels_any d (tp99) r _ G100.out hd K104.out.rd K104.out.k).mono ?_
       intro e w107 h
       cases hv : selsD d (tp99) with
       | error x =>
         rw [hv] at h
         obtain ⟨rfl, m⟩ := of_err h
         exact ⟨rfl, HQ.out _ _ (per (by simp only [opR, opRest, varsR, E63.out, E97.out, E103.out, hv, if_false, Bool.false_eq_true]) (K104.out.mv.trans m))⟩
       | ok p =>
         obtain ⟨sq, tp107⟩ := p
         rw [hv] at h
         obtain ⟨⟨v, rfl, hl⟩, rr, mm⟩ := of_ok h
         obtain ⟨A4, kA4, rfl, hts⟩ := row_open hl
         have G108 := Hd (G100.out.sub (sels_sfx hv).1)
         have K109 := Hd (K104.out.next rr mm)
         have O110 := Hd (O105.out.next mm K104.out.rb)
         have O111 := Hd (Ov.of hts K104.out.blt)
         have E112 := Hd hv
         clear rr mm hv hl hts h
         obtain ⟨y0, y1, y2, y3, y4, yz⟩ := gfv_cells K109.out.loc
         have yf0 := yz 0
         have yf1 := yz 1
         have yf2 := yz 2
         have yf3 := yz 3
         have yf4 := yz 4
         clear yz
         obtain ⟨x0, x1, x2, x3, x4, xz⟩ := gfv_cells K109.out.res
         have xf0 := xz 0
         have xf1 := xz 1
         have xf2 := xz 2
         have xf3 := xz 3
         have xf4 := xz 4
         clear xz
         go_wp2_with fail
         clear y0 y1 y2 y3 y4 yf0 yf1 yf2 yf3 yf4 x0 x1 x2 x3 x4 xf0 xf1 xf2 xf3 xf4
         have K113 : Hid (S1 w r (w107.setCell ⟨w.heap.size + 1, 4, none⟩ (.slice A4 (encSL sq).len kA4)) _ (w.heap.size + 1) (.cells #[.int .i64 k, .string ⟨#[]⟩, .slice none 0 0, .slice A3 (rowOf encD ds).len kA3, .slice A4 (encSL sq).len kA4] 68 (0, 0)) _ d) := Hd (K109.out.put 4 (.slice A4 (encSL sq).len kA4))
         have O114 : Hid (Ov (w.heap.size + 1) (w107.setCell ⟨w.heap.size + 1, 4, none⟩ (.slice A4 (encSL sq).len kA4)) _ _) := Hd (O110.out.put (i := 4) (v := .slice A4 (encSL sq).len kA4) (Nat.le_refl _))
         have O115 : Hid (Ov (w.heap.size + 1) (w107.setCell ⟨w.heap.size + 1, 4, none⟩ (.slice A4 (encSL sq).len kA4)) _ _) := Hd (O111.out.put (i := 4) (v := .slice A4 (encSL sq).len kA4) (Nat.le_refl _))
         obtain ⟨f1, f2, f3⟩ := S1.fin (ys := [.int .i64 0, .string ⟨#[]⟩, .slice none 0 0, .slice none 0 0, .slice none 0 0]) K113.out [.int .i64 k, .string ⟨#[]⟩, .slice none 0 0, .slice A3 (rowOf encD ds).len kA3, .slice A4 (encSL sq).len kA4] rfl
         have Fd := O114.out.fin (w := w) (Nat.le_of_lt K113.out.bl) [.int .i64 k, .string ⟨#[]⟩, .slice none 0 0, .slice A3 (rowOf encD ds).len kA3, .slice A4 (encSL sq).len kA4]
         have Fs := O115.out.fin (w := w) (Nat.le_of_lt K113.out.bl) [.int .i64 k, .string ⟨#[]⟩, .slice none 0 0, .slice A3 (rowOf encD ds).len kA3, .slice A4 (encSL sq).len kA4]
         have FP := HQ.out _ _ (post_ok (a := ⟨k, eB, [], ds, sq⟩) (by simp only [opR, opRest, varsR, E63.out, E97.out, E103.out, E112.out, if_false, Bool.false_eq_true]) ⟨[.int .i64 k, .string ⟨#[]⟩, .slice none 0 0, .slice A3 (rowOf encD ds).len kA3, .slice A4 (encSL sq).len kA4], rfl, TS.int (TS.str (Nat.zero_le _) (TS.row (show TP _ _ (.row (rowOf encVar [])) _ from TP.none _ _) (TS.row Fd (TS.row Fs (TS.nil _ _)))))⟩ f2 f3)
         exact ret_st rfl rfl rfl f1 Tryz.underlying68 ⟨_, rfl⟩ (by kernel_rfl) FP
set_option maxRecDepth 100000 in
set_option maxHeartbeats 8000000 in
theorem frag_any (d : Nat) (ts : List Tok) (r : Nat) (w : World) (hG : GoodD ts) (hd : d ≤ 16) (hR : Rd w r ts d) (hK : KRd r w) : Calls Tryz.prog 99 #[.pointer (some ⟨r, 0, none⟩)] w (Post r d w (layS encF) (fragR d ts)) := by
 suffices H : ∀ Q : Ending → World → Prop, (∀ e w', Post r d w (layS encF) (fragR d ts) e w' → Q e w') → Calls Tryz.prog 99 #[.pointer (some ⟨r, 0, none⟩)] w Q from H _ (fun _ _ h => h)
 intro Q hQ
 have HQ := Hd hQ
 have K0 := Hd (S0.start hR hK #[.string ⟨#[]⟩, .string ⟨#[]⟩, .slice none 0 0, .slice none 0 0] 87)
 have G0 := Hd hG
 clear hQ hR hK hG
 go_enter Tryz.func99, Tryz.ntmps99
 go_wp2_with fail
 refine (at_any r ts d 2 onB _ K0.out.rd).mono ?_
 intro e w1 h
 cases hb : atB 2 onB ts with
 | true =>
   rw [hb] at h
   obtain ⟨rfl, rfl⟩ := h
   have E2 := Hd hb
   clear hb
   go_wp2_with fail
   exact ⟨rfl, HQ.out _ _ (per (by simp only [fragR, E2.out, if_true]) K0.out.mv)⟩
 | false =>
   rw [hb] at h
   obtain ⟨rfl, rfl⟩ := h
   have E3 := Hd hb
   clear hb
   go_wp2_with fail
   refine (pname_any r (ts) d _ K0.out.rd).mono ?_
   intro e w4 h
   cases hn : nameR (ts) with
   | none =>
     rw [hn] at h
     obtain ⟨rfl, m⟩ := h
     exact ⟨rfl, HQ.out _ _ (per (by simp only [fragR, E3.out, hn, if_false, Bool.false_eq_true]) (K0.out.mv.trans m))⟩
   | some p =>
     obtain ⟨n, tn4⟩ := p
     rw [hn] at h
     obtain ⟨rfl, rr, mm⟩ := h
     have Nn := Hd (G0.out.name hn)
     have G5 := Hd (G0.out.sub (name_sfx hn).1)
     have E6 := Hd hn
     have K7 := Hd (K0.out.next rr mm)
     clear rr mm hn
     go_wp2_with fail
     have K8 := Hd (S1.make K7.out #[.string n, .string ⟨#[]⟩, .slice none 0 0, .slice none 0 0] 87)
     refine (need_any r tn4 d 2 onB _ K8.out.rd).mono ?_
     intro e w9 h
     cases hb : atB 2 onB tn4 with
     | false =>
       rw [hb] at h
       simp only [Bool.false_eq_true, if_false] at h
       obtain ⟨rfl, m⟩ := h
       exact ⟨rfl, HQ.out _ _ (per (by simp only [fragR, E3.out, E6.out, hb, if_false, Bool.false_eq_true]) (K8.out.mv.trans m))⟩
     | true =>
       rw [hb] at h
       simp only [if_true] at h
       obtain ⟨rfl, rr, mm⟩ := h
       have G10 := Hd (G5.out.sub (at_sfx hb).1)
       have E11 := Hd hb
       have K12 := Hd (K8.out.next rr mm)
       clear rr mm hb
       go_wp2_with fail
       refine (pname_any r (tn4.tail) d _ K12.out.rd).mono ?_
       intro e w13 h
       cases hn : nameR (tn4.tail) with
       | none =>
         rw [hn] at h
         obtain ⟨rfl, m⟩ := h
         exact ⟨rfl, HQ.out _ _ (per (by simp only [fragR, E3.out, E6.out, E11.out, hn, if_true, if_false, Bool.false_eq_true]) (K12.out.mv.trans m))⟩
       | some p =>
         obtain ⟨o, tn13⟩ := p
         rw [hn] at h
         obtain ⟨rfl, rr, mm⟩ := h
         have No := Hd (G10.out.name hn)
         have G14 := Hd (G10.out.sub (name_sfx hn).1)
         have E15 := Hd hn
         have K16 := Hd (K12.out.next rr mm)
         clear rr mm hn
         obtain ⟨y0, y1, y2, y3, yz⟩ := four_cells K16.out.loc
         have yf0 := yz 0
         have yf1 := yz 1
         have yf2 := yz 2
         have yf3 := yz 3
         clear yz
         go_wp2_with fail
         clear y0 y1 y2 y3 yf0 yf1 yf2 yf3
         have K17 : Hid (S1 w r (w13.setCell ⟨w4.heap.size, 1, none⟩ (.string o)) _ (w4.heap.size) (.cells #[.string n, .string o, .slice none 0 0, .slice none 0 0] 87 (0, 0)) _ d) := Hd (K16.out.put 1 (.string o))
         generalize (w13.setCell ⟨w4.heap.size, 1, none⟩ (.string o)) = wz18 at K17 ⊢
         refine (dirs_any true d (tn13) r _ G14.out hd K17.out.rd K17.out.k).mono ?_
         intro e w19 h
         cases hv : dirsR true d (tn13) with
         | error x =>
           rw [hv] at h
           obtain ⟨rfl, m⟩ := of_err h
           exact ⟨rfl, HQ.out _ _ (per (by simp only [fragR, E3.out, E6.out, E11.out, E15.out, hv, if_true, if_false, Bool.false_eq_true]) (K17.out.mv.trans m))⟩
         | ok p =>
           obtain ⟨ds, tp19⟩ := p
           rw [hv] at h
           obtain ⟨⟨v, rfl, hl⟩, rr, mm⟩ := of_ok h
           obtain ⟨A2, kA2, rfl, hts⟩ := row_open hl
           have G20 := Hd (G14.out.sub (dirs_sfx hv))
           have K21 := Hd (K17.out.next rr mm)
           have O22 := Hd (Ov.of hts K17.out.blt)
           have E23 := Hd hv
           clear rr mm hv hl hts h
           obtain ⟨y0, y1, y2, y3, yz⟩ := four_cells K21.out.loc
           have yf0 := yz 0
           have yf1 := yz 1
           have yf2 := yz 2
           have yf3 := yz 3
           clear yz
           go_wp2_with fail
           clear y0 y1 y2 y3 yf0 yf1 yf2 yf3
           have K24 : Hid (S1 w r (w19.setCell ⟨w4.heap.size, 2, none⟩ (.slice A2 (rowOf encD ds).len kA2)) _ (w4.heap.size) (.cells #[.string n, .string o, .slice A2 (rowOf encD ds).len kA2, .slice none 0 0] 87 (0, 0)) _ d) := Hd (K21.out.put 2 (.slice A2 (rowOf encD ds).len kA2))
           have O25 : Hid (Ov (w4.heap.size) (w19.setCell ⟨w4.heap.size, 2, none⟩ (.slice A2 (rowOf encD ds).len kA2)) _ _) := Hd (O22.out.put (i := 2) (v := .slice A2 (rowOf encD ds).len kA2) (Nat.le_refl _))
           generalize (w19.setCell ⟨w4.heap.size, 2, none⟩ (.slice A2 (rowOf encD ds).len kA2)) = wz26 at K24 O25 ⊢
           refine (sels_any d (tp19) r _ G20.out hd K24.out.rd K24.out.k).mono ?_
           intro e w27 h
           cases hv : selsD d (tp19) with
           | error x =>
             rw [hv] at h
             obtain ⟨rfl, m⟩ := of_err h
             exact ⟨rfl, HQ.out _ _ (per (by simp only [fragR, E3.out, E6.out, E11.out, E15.out, E23.out, hv, if_true, if_false, Bool.false_eq_true]) (K24.out.mv.trans m))⟩
           | ok p =>
             obtain ⟨sq, tp27⟩ := p
             rw [hv] at h
             obtain ⟨⟨v, rfl, hl⟩, rr, mm⟩ := of_ok h
             obtain ⟨A3, kA3, rfl, hts⟩ := row_open hl
             have G28 := Hd (G20.out.sub (sels_sfx hv).1)
             have K29 := Hd (K24.out.next rr mm)
             have O30 := Hd (O25.out.next mm K24.out.rb)
             have O31 := Hd (Ov.of hts K24.out.blt)
             have E32 := Hd hv
             clear rr mm hv hl hts h
             obtain ⟨y0, y1, y2, y3, yz⟩ := four_cells K29.out.loc
             have yf0 := yz 0
             have yf1 := yz 1
             have yf2 := yz 2
             have yf3 := yz 3
             clear yz
             go_upto_region 8 with fail
             clear y0 y1 y2 y3 yf0 yf1 yf2 yf3
             have K33 : Hid (S1 w r (w27.setCell ⟨w4.heap.size, 3, none⟩ (.slice A3 (encSL sq).len kA3)) _ (w4.heap.size) (.cells #[.string n, .string o, .slice A2 (rowOf encD ds).len kA2, .slice A3 (encSL sq).len kA3] 87 (0, 0)) _ d) := Hd (K29.out.put 3 (.slice A3 (encSL sq).len kA3))
             have O34 : Hid (Ov (w4.heap.size) (w27.setCell ⟨w4.heap.size, 3, none⟩ (.slice A3 (encSL sq).len kA3)) _ _) := Hd (O30.out.put (i := 3) (v := .slice A3 (encSL sq).len kA3) (Nat.le_refl _))
             have O35 : Hid (Ov (w4.heap.size) (w27.setCell ⟨w4.heap.size, 3, none⟩ (.slice A3 (encSL sq).len kA3)) _ _) := Hd (O31.out.put (i := 3) (v := .slice A3 (encSL sq).len kA3) (Nat.le_refl _))
             generalize (w27.setCell ⟨w4.heap.size, 3, none⟩ (.slice A3 (encSL sq).len kA3)) = wz36 at K33 O34 O35 ⊢
             obtain ⟨y0, y1, y2, y3, yz⟩ := four_cells K33.out.loc
             have yf0 := yz 0
             have yf1 := yz 1
             have yf2 := yz 2
             have yf3 := yz 3
             clear yz
             obtain ⟨x0, x1, x2, x3, xz⟩ := four_cells K33.out.res
             have xf0 := xz 0
             have xf1 := xz 1
             have xf2 := xz 2
             have xf3 := xz 3
             clear xz
             go_wp2_with fail
             clear y0 y1 y2 y3 yf0 yf1 yf2 yf3 x0 x1 x2 x3 xf0 xf1 xf2 xf3
             obtain ⟨f1, f2, f3⟩ := S1.fin (ys := [.string ⟨#[]⟩, .string ⟨#[]⟩, .slice none 0 0, .slice none 0 0]) K33.out [.string n, .string o, .slice A2 (rowOf encD ds).len kA2, .slice A3 (encSL sq).len kA3] rfl
             have Fd := O34.out.fin (w := w) (Nat.le_of_lt K33.out.bl) [.string n, .string o, .slice A2 (rowOf encD ds).len kA2, .slice A3 (encSL sq).len kA3]
             have Fs := O35.out.fin (w := w) (Nat.le_of_lt K33.out.bl) [.string n, .string o, .slice A2 (rowOf encD ds).len kA2, .slice A3 (encSL sq).len kA3]
             have FP := HQ.out _ _ (post_ok (a := ⟨n, o, ds, sq⟩) (by simp only [fragR, E3.out, E6.out, E11.out, E15.out, E23.out, E32.out, if_true, if_false, Bool.false_eq_true]) ⟨[.string n, .string o, .slice A2 (rowOf encD ds).len kA2, .slice A3 (encSL sq).len kA3], rfl, TS.str Nn.out (TS.str No.out (TS.row Fd (TS.row Fs (TS.nil _ _))))⟩ f2 f3)
             exact ret_st rfl rfl rfl f1 Tryz.underlying87 ⟨_, rfl⟩ (by kernel_rfl) FP
structure RX (ty : TypeId) (n base : Nat) (W : World) (V : Value) (l : TrL) (xs : List Value) (P X : Nat → Prop) : Prop where
 own : W.ownsRow base ty n V l.len xs
 val : TLV W P l xs
 bd : ∀ b, P b → base ≤ b ∧ b < W.heap.size ∧ V.ownBlock ≠ some b
 inX : ∀ b, (P b ∨ V.ownBlock = some b) → X b
theorem RX.next {ty : TypeId} {n base r : Nat} {W W' : World} {V : Value} {l : TrL} {xs : List Value} {P X : Nat → Prop} (h : RX ty n base W V l xs P X) (m : Moved r W W') (hr : r < base) : RX ty n base W' V l xs P X :=
 ⟨own_moved h.own m hr, h.val.keep (fun b hb => ⟨hb, m.block b (h.bd b hb).2.1 (fun e => by have := (h.bd b hb).1; injection e; omega)⟩), fun b hb => ⟨(h.bd b hb).1, Nat.lt_of_lt_of_le (h.bd b hb).2.1 m.size, (h.bd b hb).2.2⟩, h.inX⟩
theorem RX.other {ty : TypeId} {n base : Nat} {W W' : World} {V : Value} {l : TrL} {xs : List Value} {P X : Nat → Prop} {k : Option Nat} (h : RX ty n base W V l xs P X) (hg : W.grownBy W' k) (hk : ∀ b, k = some b → ¬ X b) : RX ty n base W' V l xs P X := by
 refine ⟨World.ownsRow.kept h.own hg ?_, h.val.keep (fun b hb => ⟨hb, hg.block b (h.bd b hb).2.1 (fun e => hk b e.symm (h.inX b (.inl hb)))⟩), fun b hb => ⟨(h.bd b hb).1, Nat.lt_of_lt_of_le (h.bd b hb).2.1 hg.size, (h.bd b hb).2.2⟩, h.inX⟩
 cases e : V.ownBlock with
 | none => exact .inl rfl
 | some b => exact .inr (fun e' => hk b e'.symm (h.inX b (.inr e)))
theorem RX.start (ty : TypeId) (n base : Nat) (W : World) : RX ty n base W (.slice none 0 0) .nil [] (fun _ => False) (fun _ => False) :=
 ⟨World.ownsRow_nil _ _ _ _, rfl, fun _ h => h.elim, fun _ h => by rcases h with h | h; exact h; cases h⟩
theorem RX.app {ty : TypeId} {n base r cap g : Nat} {w2 w3 w4 : World} {V : Value} {l : TrL} {s : TrS} {o : Obj} {xs cs : List Value} {P X : Nat → Prop} (h : RX ty n base w2 V l xs P X) (hbase : base ≤ w2.heap.size) (m : Moved r w2 w3) (hr : r < base)
   (hd : TS w3 (fun b => w2.heap.size ≤ b ∧ b < w3.heap.size) s cs) (hown4 : w4.ownsRow base ty n (.slice (some ⟨g, 0, none⟩) (l.len + 1) cap) (l.len + 1) (xs ++ cs)) (hg : (w3.alloc o).grownBy w4 V.ownBlock) (hat : V.ownBlock = some g ∨ g = (w3.alloc o).heap.size) :
   ∃ P', RX ty n base w4 (.slice (some ⟨g, 0, none⟩) (l.len + 1) cap) (l.snoc s) (xs ++ cs) P' (fun b => X b ∨ (w2.heap.size ≤ b ∧ b < w4.heap.size)) := by
 have hs := m.size
 have hV : ∀ k, V.ownBlock = some k → k < w2.heap.size := fun k hk => (h.own.lt k hk).2
 obtain ⟨h1, _, h3⟩ := step_blocks (wr := w3) (w2 := w3) (w4 := w4) (V := V) (g := g) (o := o) (P := fun b => P b ∨ (w2.heap.size ≤ b ∧ b < w3.heap.size)) (base := base) (Nat.le_trans hbase hs) (fun k hk => Nat.lt_of_lt_of_le (hV k hk) hs) (fun b hb => by
   rcases hb with hb | hb
   · exact ⟨(h.bd b hb).1, Nat.lt_of_lt_of_le (h.bd b hb).2.1 hs, (h.bd b hb).2.2⟩
   · exact ⟨Nat.le_trans hbase hb.1, hb.2, fun e => by have := hV b e; omega⟩) (Below.refl _ _) hg hat
 have ha : (w3.alloc o).heap.size = w3.heap.size + 1 := by simp
 have hs4 := hg.size
 refine ⟨_, by rw [TrL.snoc_len]; exact hown4, TLV.snoc (TS.keep (fun b hb => h1 b (.inr hb)) _ _ hd) ((h.val.keep (P' := fun b => P b ∨ (w2.heap.size ≤ b ∧ b < w3.heap.size)) (fun b hb => ⟨.inl hb, m.block b (h.bd b hb).2.1 (fun e => by have := (h.bd b hb).1; injection e; omega)⟩)).keep h1), h3, fun b hb => ?_⟩
 rcases hb with hb | hb
 · have h5 := h3 b hb
   rcases hb with (hPb | hPb) | hPb
   · exact .inl (h.inX b (.inl hPb))
   · exact .inr ⟨hPb.1, h5.2.1⟩
   · have h6 := hPb.1; have h7 := hPb.2; omega
 · have hgb : g = b := by
     have : (Value.slice (some ⟨g, 0, none⟩) (l.len + 1) cap).ownBlock = some g := rfl
     rw [this] at hb; exact Option.some.inj hb
   subst hgb
   rcases hat with hat | hat
   · exact .inl (h.inX g (.inr hat))
   · exact .inr ⟨by omega, (hown4.lt g rfl).2⟩
abbrev zDoc : Obj := .cells #[.slice none 0 0, .slice none 0 0] 26
abbrev docO (V1 V2 : Value) : Obj := .cells #[V1, V2] 26
structure DK (w : World) (r : Nat) (W : World) (V1 V2 : Value) (D : DocT) (xs1 xs2 : List Value) (P1 X1 P2 X2 : Nat → Prop) : Prop where
 res : W.heap[w.heap.size]? = some zDoc
 loc : W.heap[w.heap.size + 1]? = some (docO V1 V2)
 r1 : RX 68 5 (w.heap.size + 2) W V1 (rowOf encOp D.ops) xs1 P1 X1
 r2 : RX 87 4 (w.heap.size + 2) W V2 (rowOf encF D.frags) xs2 P2 X2
 dis : ∀ b, X1 b → X2 b → False
 b1 : ∀ b, X1 b → w.heap.size + 2 ≤ b ∧ b < W.heap.size
 b2 : ∀ b, X2 b → w.heap.size + 2 ≤ b ∧ b < W.heap.size
 mv : Moved r w W
 hr : r < w.heap.size
 lt : w.heap.size + 2 ≤ W.heap.size
theorem DK.start (w : World) (r : Nat) (hr : r < w.heap.size) : DK w r ((w.alloc zDoc).alloc (docO (.slice none 0 0) (.slice none 0 0))) (.slice none 0 0) (.slice none 0 0) ⟨[], []⟩ [] [] (fun _ => False) (fun _ => False) (fun _ => False) (fun _ => False) :=
 ⟨(Below.heap_alloc _ _ _ (by simp)).trans (heap_alloc_new _ _), heap_alloc2_new _ _ _, RX.start _ _ _ _, RX.start _ _ _ _, fun _ h => h.elim, fun _ h => h.elim, fun _ h => h.elim, (Moved.of_below (blw _ _)).trans (Moved.of_below (blw _ _)), hr, by simp⟩
theorem DK.next {w : World} {r : Nat} {W W' : World} {V1 V2 : Value} {D : DocT} {xs1 xs2 : List Value} {P1 X1 P2 X2 : Nat → Prop} (h : DK w r W V1 V2 D xs1 xs2 P1 X1 P2 X2) (m : Moved r W W') : DK w r W' V1 V2 D xs1 xs2 P1 X1 P2 X2 :=
 ⟨m.keep h.res (by have := h.hr; omega), m.keep h.loc (by have := h.hr; omega), h.r1.next m (by have := h.hr; omega), h.r2.next m (by have := h.hr; omega), h.dis, fun b hb => ⟨(h.b1 b hb).1, Nat.lt_of_lt_of_le (h.b1 b hb).2 m.size⟩, fun b hb => ⟨(h.b2 b hb).1, Nat.lt_of_lt_of_le (h.b2 b hb).2 m.size⟩, h.mv.trans m, h.hr, Nat.le_trans h.lt m.size⟩
theorem DK.grown {w : World} {r : Nat} {w3 w4 : World} {V1 V2 : Value} {D : DocT} {xs1 xs2 : List Value} {P1 X1 P2 X2 : Nat → Prop} {o : Obj} {k : Option Nat} (h : DK w r w3 V1 V2 D xs1 xs2 P1 X1 P2 X2) (hg : (w3.alloc o).grownBy w4 k) (hk : ∀ b, k = some b → w.heap.size + 2 ≤ b) :
   w4.heap[w.heap.size]? = some zDoc ∧ w4.heap[w.heap.size + 1]? = some (docO V1 V2) ∧ Moved r w w4 ∧ w.heap.size + 2 ≤ w4.heap.size := by
 have hlt := h.lt
 have ha : (w3.alloc o).heap.size = w3.heap.size + 1 := by simp
 have hs := hg.size
 refine ⟨?_, ?_, ?_, by omega⟩
 · rw [hg.block _ (by omega) (fun e => by have := hk _ e.symm; omega), Below.heap_alloc _ _ _ (by omega)]; exact h.res
 · rw [hg.block _ (by omega) (fun e => by have := hk _ e.symm; omega), Below.heap_alloc _ _ _ (by omega)]; exact h.loc
 · have m := h.mv.trans (Moved.of_below (blw w3 o))
   exact ⟨hg.os.trans m.os, hg.tape.trans m.tape, hg.output.trans m.output, Nat.le_trans m.size hg.size, fun j hj hn => (hg.block j (Nat.lt_of_lt_of_le hj m.size) (fun e => by have := hk _ e.symm; omega)).trans (m.block j hj hn)⟩
theorem DK.own1 {w : World} {r : Nat} {W : World} {V1 V2 : Value} {D : DocT} {xs1 xs2 : List Value} {P1 X1 P2 X2 : Nat → Prop} (h : DK w r W V1 V2 D xs1 xs2 P1 X1 P2 X2) : ∀ b, V1.ownBlock = some b → w.heap.size + 2 ≤ b := fun b hb => (h.b1 b (h.r1.inX b (.inr hb))).1
theorem DK.own2 {w : World} {r : Nat} {W : World} {V1 V2 : Value} {D : DocT} {xs1 xs2 : List Value} {P1 X1 P2 X2 : Nat → Prop} (h : DK w r W V1 V2 D xs1 xs2 P1 X1 P2 X2) : ∀ b, V2.ownBlock = some b → w.heap.size + 2 ≤ b := fun b hb => (h.b2 b (h.r2.inX b (.inr hb))).1
theorem DK.app1 {w : World} {r g cap : Nat} {w2 w3 w4 : World} {V1 V2 : Value} {D : DocT} {xs1 xs2 : List Value} {P1 X1 P2 X2 : Nat → Prop} {o : Obj} {x : OpT} {cs : List Value} (h : DK w r w2 V1 V2 D xs1 xs2 P1 X1 P2 X2) (m : Moved r w2 w3) (hd : TS w3 (Fresh w2 w3) (encOp x) cs)
   (hown4 : w4.ownsRow (w.heap.size + 2) 68 5 (.slice (some ⟨g, 0, none⟩) ((rowOf encOp D.ops).len + 1) cap) ((rowOf encOp D.ops).len + 1) (xs1 ++ cs)) (hg : (w3.alloc o).grownBy w4 V1.ownBlock) (hat : V1.ownBlock = some g ∨ g = (w3.alloc o).heap.size) :
   ∃ P', DK w r (w4.setCell ⟨w.heap.size + 1, 0, none⟩ (.slice (some ⟨g, 0, none⟩) ((rowOf encOp D.ops).len + 1) cap)) (.slice (some ⟨g, 0, none⟩) ((rowOf encOp D.ops).len + 1) cap) V2 ⟨D.ops ++ [x], D.frags⟩ (xs1 ++ cs) xs2 P' (fun b => X1 b ∨ (w2.heap.size ≤ b ∧ b < w4.heap.size)) P2 X2 := by
 have h3 := h.next m
 have hr := h.hr
 obtain ⟨P', hR⟩ := h.r1.app h.lt m (by omega) hd hown4 hg hat
 obtain ⟨q0, q1, q2, q3⟩ := h3.grown hg h3.own1
 have hsz : ∀ v, (w4.setCell ⟨w.heap.size + 1, 0, none⟩ v).heap.size = w4.heap.size := fun v => by simp [World.setCell]
 have hs := m.size
 have ha : (w3.alloc o).heap.size = w3.heap.size + 1 := by simp
 have hs4 := hg.size
 have hR2 := (h3.r2.other (World.grownBy_alloc w3 o none) (fun _ e => by cases e)).other hg (fun b e hx => h.dis b (h.r1.inX b (.inr e)) hx)
 refine ⟨P', set_other' q0 (by omega), heap_setCell_same _ _ 0 _ _ _ q1, ?_, hR2.next (Moved.set (r := w.heap.size + 1)) (by omega), ?_, fun b hb => ?_, fun b hb => ?_, q2.put (by omega), hr, by rw [hsz]; exact q3⟩
 · rw [show rowOf encOp (D.ops ++ [x]) = (rowOf encOp D.ops).snoc (encOp x) from rowOf_snoc _ _ _]
   exact hR.next (Moved.set (r := w.heap.size + 1)) (by omega)
 · intro b hb hx
   rcases hb with hb | hb
   · exact h.dis b hb hx
   · have := (h.b2 b hx).2; omega
 · rw [hsz]
   rcases hb with hb | hb
   · have := h.b1 b hb; omega
   · have := h.lt; omega
 · rw [hsz]; have := h.b2 b hb; omega
theorem DK.app2 {w : World} {r g cap : Nat} {w2 w3 w4 : World} {V1 V2 : Value} {D : DocT} {xs1 xs2 : List Value} {P1 X1 P2 X2 : Nat → Prop} {o : Obj} {x : FragT} {cs : List Value} (h : DK w r w2 V1 V2 D xs1 xs2 P1 X1 P2 X2) (m : Moved r w2 w3) (hd : TS w3 (Fresh w2 w3) (encF x) cs)
   (hown4 : w4.ownsRow (w.heap.size + 2) 87 4 (.slice (some ⟨g, 0, none⟩) ((rowOf encF D.frags).len + 1) cap) ((rowOf encF D.frags).len + 1) (xs2 ++ cs)) (hg : (w3.alloc o).grownBy w4 V2.ownBlock) (hat : V2.ownBlock = some g ∨ g = (w3.alloc o).heap.size) :
   ∃ P', DK w r (w4.setCell ⟨w.heap.size + 1, 1, none⟩ (.slice (some ⟨g, 0, none⟩) ((rowOf encF D.frags).len + 1) cap)) V1 (.slice (some ⟨g, 0, none⟩) ((rowOf encF D.frags).len + 1) cap) ⟨D.ops, D.frags ++ [x]⟩ xs1 (xs2 ++ cs) P1 X1 P' (fun b => X2 b ∨ (w2.heap.size ≤ b ∧ b < w4.heap.size)) := by
 have h3 := h.next m
 have hr := h.hr
 obtain ⟨P', hR⟩ := h.r2.app h.lt m (by omega) hd hown4 hg hat
 obtain ⟨q0, q1, q2, q3⟩ := h3.grown hg h3.own2
 have hsz : ∀ v, (w4.setCell ⟨w.heap.size + 1, 1, none⟩ v).heap.size = w4.heap.size := fun v => by simp [World.setCell]
 have hs := m.size
 have ha : (w3.alloc o).heap.size = w3.heap.size + 1 := by simp
 have hs4 := hg.size
 have hR1 := (h3.r1.other (World.grownBy_alloc w3 o none) (fun _ e => by cases e)).other hg (fun b e hx => h.dis b hx (h.r2.inX b (.inr e)))
 refine ⟨P', set_other' q0 (by omega), heap_setCell_same _ _ 1 _ _ _ q1, hR1.next (Moved.set (r := w.heap.size + 1)) (by omega), ?_, ?_, fun b hb => ?_, fun b hb => ?_, q2.put (by omega), hr, by rw [hsz]; exact q3⟩
 · rw [show rowOf encF (D.frags ++ [x]) = (rowOf encF D.frags).snoc (encF x) from rowOf_snoc _ _ _]
   exact hR.next (Moved.set (r := w.heap.size + 1)) (by omega)
 · intro b hx hb
   rcases hb with hb | hb
   · exact h.dis b hx hb
   · have := (h.b1 b hx).2; omega
 · rw [hsz]; have := h.b1 b hb; omega
 · rw [hsz]
   rcases hb with hb | hb
   · have := h.b2 b hb; omega
   · have := h.lt; omega
def encDoc (D : DocT) : TrS := .cons (.row (rowOf encOp D.ops)) (.cons (.row (rowOf encF D.frags)) .nil)
theorem DK.tree {w : World} {r : Nat} {W : World} {V1 V2 : Value} {D : DocT} {xs1 xs2 : List Value} {P1 X1 P2 X2 : Nat → Prop} (h : DK w r W V1 V2 D xs1 xs2 P1 X1 P2 X2) (h1 : D.ops.length ≤ 9223372036854775807) (h2 : D.frags.length ≤ 9223372036854775807) : OvS (w.heap.size + 1) W (encDoc D) [V1, V2] := by
 have f1 := (show RTr _ _ _ _ _ _ from ⟨xs1, P1, h.r1.own, h.r1.val, h.r1.bd⟩ : RTr 68 5 (w.heap.size + 2) W V1 (rowOf encOp D.ops)).fin (by rw [rowOf_len]; exact h1)
 have f2 := (show RTr _ _ _ _ _ _ from ⟨xs2, P2, h.r2.own, h.r2.val, h.r2.bd⟩ : RTr 87 4 (w.heap.size + 2) W V2 (rowOf encF D.frags)).fin (by rw [rowOf_len]; exact h2)
 unfold encDoc OvS
 exact TS.row (TP.keep (fun b hb => ⟨⟨by have := hb.1; omega, hb.2⟩, rfl⟩) _ _ f1) (TS.row (TP.keep (fun b hb => ⟨⟨by have := hb.1; omega, hb.2⟩, rfl⟩) _ _ f2) (TS.nil _ _))
end Go.Proofs.YtpkmbhnikilihaaGreatDoor
