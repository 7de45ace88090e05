/- The landed selection. -/
import Derived.Test.YtpkmbhnikilihaaGreatDoorQv24
set_option maxRecDepth 100000
set_option maxHeartbeats 8000000
namespace Go.Proofs.YtpkmbhnikilihaaGreatDoor
open Go.RowKit
theorem selection_one (S:SelsF) (HF:∀ ts l r,S ts=.ok (l,r)→Sfx r ts) (d:Nat) (ts:List Tok) (r:Nat) (w:World) (HS:∀ tq wx,GoodD tq→tq.length≤ts.length→Rd wx r tq d→KRd r wx→Calls Tryz.prog 96 #[.pointer (some ⟨r,0,none⟩)] wx (Post r d wx (layR encSL) (S tq))) (hG:GoodD ts) (hd:d≤16) (hR:Rd w r ts d) (hK:KRd r w):Calls Tryz.prog 172 #[.pointer (some ⟨r,0,none⟩)] w (Post r d w (layS encS) (selOne S d ts)):=by
 suffices H:∀ Q:Ending→World→Prop,(∀ e w',Post r d w (layS encS) (selOne S d ts) e w'→Q e w')→Calls Tryz.prog 172 #[.pointer (some ⟨r,0,none⟩)] w Q from H _ (fun _ _ h=>h)
 intro Q hQ
 have HQ:=Hd hQ
 have L0:=Hd (List.suffix_refl ts)
 have HSS:=Hd HS
 have HFF:=Hd HF
 have K0:=Hd (S0.start hR hK #[.int .i64 0,.string ⟨#[]⟩,.string ⟨#[]⟩,.slice none 0 0,.slice none 0 0,.string ⟨#[]⟩,.slice none 0 0] 72)
 have G0:=Hd hG
 clear hQ hR hK hG HS HF
 go_enter Tryz.func172,Tryz.ntmps172
 go_wp2_with fail
 refine (skip_any r ts d 1 dotB _ K0.out.rd).mono ?_
 intro e w1 h
 cases hb:atB 1 dotB ts with
 | true =>
   rw [hb] at h
   obtain ⟨rfl,rr,mm⟩:=h
   rw [skip_yes hb] at rr
   have G2:=Hd (G0.out.sub (at_sfx hb).1)
   have L3:=Hd (((at_sfx hb).1).trans L0.out)
   have E4:=Hd hb
   have K5:=Hd (K0.out.next rr mm)
   clear rr mm hb
   go_wp2_with fail
   refine (spread_any S HFF.out d (ts.tail) r _ (fun tq wx g l=>HSS.out tq wx g (Nat.le_trans l L3.out.length_le)) G2.out hd K5.out.rd K5.out.k).mono ?_
   intro e w3 h
   cases hv:spreadR S d ts.tail with
   | error x =>
     rw [hv] at h
     obtain ⟨rfl,m⟩:=of_err h
     exact ⟨rfl,HQ.out _ _ (per (by simp only [selOne,fieldR,E4.out,hv,if_true]) (K5.out.mv.trans m))⟩
   | ok p =>
     obtain ⟨a,tp⟩:=p
     rw [hv] at h
     obtain ⟨⟨v,rfl,hl⟩,rr,mm⟩:=of_ok h
     obtain ⟨i0,s1,s2,A3,n3,k3,A4,n4,k4,s5,A6,n6,k6,rfl,hts⟩:=sel_open hl
     have T1:=Hd (OvS.of hts K5.out.lt)
     have E6:=Hd hv
     have K7:=Hd (K5.out.next rr mm)
     clear rr mm hl hts h hv
     obtain ⟨x0,x1,x2,x3,x4,x5,x6,xz⟩:=svc K7.out.res
     have xf0:=xz 0
     have xf1:=xz 1
     have xf2:=xz 2
     have xf3:=xz 3
     have xf4:=xz 4
     have xf5:=xz 5
     have xf6:=xz 6
     clear xz
     go_wp2_with fail
     obtain ⟨f1,f2,f3⟩:=S0.fin (ys:=[.int .i64 0,.string ⟨#[]⟩,.string ⟨#[]⟩,.slice none 0 0,.slice none 0 0,.string ⟨#[]⟩,.slice none 0 0]) K7.out [.int .i64 i0,.string s1,.string s2,.slice A3 n3 k3,.slice A4 n4 k4,.string s5,.slice A6 n6 k6] rfl
     have FT:=T1.out.fin (w:=w) (Nat.le_refl _) [.int .i64 i0,.string s1,.string s2,.slice A3 n3 k3,.slice A4 n4 k4,.string s5,.slice A6 n6 k6]
     have FP:=HQ.out _ _ (post_ok (a:=a) (by simp only [selOne,fieldR,E4.out,E6.out,if_true]) ⟨[.int .i64 i0,.string s1,.string s2,.slice A3 n3 k3,.slice A4 n4 k4,.string s5,.slice A6 n6 k6],rfl,FT⟩ f2 f3)
     exact ret_st rfl rfl rfl f1 Tryz.underlying72 ⟨_,rfl⟩ (by kernel_rfl) FP
 | false =>
   rw [hb] at h
   obtain ⟨rfl,rr,mm⟩:=h
   rw [skip_no hb] at rr
   have E8:=Hd hb
   have K9:=Hd (K0.out.next rr mm)
   clear rr mm hb
   go_wp2_with fail
   refine (pname_any r (ts) d _ K9.out.rd).mono ?_
   intro e w10 h
   cases hn:nameR (ts) with
   | none =>
     rw [hn] at h
     obtain ⟨rfl,m⟩:=h
     exact ⟨rfl,HQ.out _ _ (per (by simp only [selOne,fieldR,E8.out,hn,if_false,Bool.false_eq_true]) (K9.out.mv.trans m))⟩
   | some p =>
     obtain ⟨n,tn10⟩:=p
     rw [hn] at h
     obtain ⟨rfl,rr,mm⟩:=h
     have Nn:=Hd (G0.out.name hn)
     have G11:=Hd (G0.out.sub (name_sfx hn).1)
     have L12:=Hd (((name_sfx hn).1).trans L0.out)
     have E13:=Hd hn
     have K14:=Hd (K9.out.next rr mm)
     clear rr mm hn
     go_wp2_with fail
     have K15:=Hd (S1.make K14.out #[.int .i64 0,.string ⟨#[]⟩,.string n,.slice none 0 0,.slice none 0 0,.string ⟨#[]⟩,.slice none 0 0] 72)
     refine (skip_any r tn10 d 1 colB _ K15.out.rd).mono ?_
     intro e w16 h
     cases hb:atB 1 colB tn10 with
     | true =>
       rw [hb] at h
       obtain ⟨rfl,rr,mm⟩:=h
       rw [skip_yes hb] at rr
       have G17:=Hd (G11.out.sub (at_sfx hb).1)
       have L18:=Hd (((at_sfx hb).1).trans L12.out)
       have E19:=Hd hb
       have K20:=Hd (K15.out.next rr mm)
       clear rr mm hb
       have K21:=Hd (K20.out.next (K20.out.rd.below (Below.drew (Below.refl _ _))) (Moved.of_below (Below.drew (Below.refl _ _))))
       obtain ⟨y0,y1,y2,y3,y4,y5,y6,yz⟩:=svc K21.out.loc
       have yf0:=yz 0
       have yf1:=yz 1
       have yf2:=yz 2
       have yf3:=yz 3
       have yf4:=yz 4
       have yf5:=yz 5
       have yf6:=yz 6
       clear yz
       go_wp2_with fail
       cases hn:nameR (tn10.tail) with
       | none =>
         refine wp_region_held_drew (S:=fun _=>True) (by kernel_rfl) trivial (fun _=>?_)
         refine wpAnyH_take (i:=0) (v:=?_) rfl (by kernel_rfl) (by kernel_rfl) (by kernel_rfl) (fun _ _ _ h=>h) (Or.inl ⟨by rfl,?_⟩) trivial ?_
         rotate_left
         · (intro w _;go_simp;try with_reducible rfl)
         simp only [Act.put,List.setIfInBounds_toArray]
         refine wpAnyH_take (i:=2) (v:=?_) rfl (by kernel_rfl) (by kernel_rfl) (by kernel_rfl) (fun _ _ _ h=>h) (Or.inl ⟨by rfl,?_⟩) trivial ?_
         rotate_left
         · (intro w _;go_simp;try with_reducible rfl)
         simp only [Act.put]
         refine wpAnyH_ready (rs:=[1,3]) (by kernel_rfl) (by simp) ?_
         refine AllReadyH.cons rfl (fun K hK=>?_) ?_
         · skip
           go_simp
           refine hK.out _ _ trivial (fun _=>?_)
           clear hK K
           try simp only [Act.put,stT,stZ,stS]
           refine wpAnyH_take (i:=4) (v:=?_) rfl (by kernel_rfl) (by kernel_rfl) (by kernel_rfl) (fun _ _ _ h=>h) (Or.inl ⟨by rfl,?_⟩) trivial ?_
           rotate_left
           · (intro w _;go_simp;try with_reducible rfl)
           simp only [Act.put,List.setIfInBounds_toArray]
           refine wpAnyH_ready (rs:=[3]) (by kernel_rfl) (by simp) ?_
           refine AllReadyH.cons rfl (fun K hK=>?_) AllReadyH.nil
           go_simp
           go_at_call 117
           refine (pname_any r (tn10.tail) d _ K21.out.rd).mono ?_
           intro e w9 h
           rw [hn] at h
           obtain ⟨rfl,m⟩:=h
           exact ⟨rfl,HQ.out _ _ (per (by simp only [selOne,fieldR,E8.out,E13.out,E19.out,hn,if_true,if_false,Bool.false_eq_true]) (K21.out.mv.trans m))⟩
         refine AllReadyH.cons rfl (fun K hK=>?_) AllReadyH.nil
         go_simp
         go_at_call 117
         refine (pname_any r (tn10.tail) d _ K21.out.rd).mono ?_
         intro e w9 h
         rw [hn] at h
         obtain ⟨rfl,m⟩:=h
         exact ⟨rfl,HQ.out _ _ (per (by simp only [selOne,fieldR,E8.out,E13.out,E19.out,hn,if_true,if_false,Bool.false_eq_true]) (K21.out.mv.trans m))⟩
       | some p =>
         obtain ⟨n2,nt2⟩:=p
         have Nn2:=Hd (G17.out.name hn)
         have E22:=Hd hn
         have hnn:=Hd hn
         clear hn
         refine wp_region_held_drew (S:=fun _=>True) (by kernel_rfl) trivial (fun _=>?_)
         refine wpAnyH_take (i:=0) (v:=?_) rfl (by kernel_rfl) (by kernel_rfl) (by kernel_rfl) (fun _ _ _ h=>h) (Or.inl ⟨by rfl,?_⟩) trivial ?_
         rotate_left
         · (intro w _;go_simp;try with_reducible rfl)
         simp only [Act.put,List.setIfInBounds_toArray]
         refine wpAnyH_take (i:=2) (v:=?_) rfl (by kernel_rfl) (by kernel_rfl) (by kernel_rfl) (fun _ _ _ h=>h) (Or.inl ⟨by rfl,?_⟩) trivial ?_
         rotate_left
         · (intro w _;go_simp;try with_reducible rfl)
         simp only [Act.put]
         refine wpAnyH_ready (rs:=[1,3]) (by kernel_rfl) (by simp) ?_
         refine AllReadyH.cons rfl (fun K hK=>?_) ?_
         · skip
           go_simp
           refine hK.out _ _ trivial (fun _=>?_)
           clear hK K
           try simp only [Act.put,stT,stZ,stS]
           refine wpAnyH_take (i:=4) (v:=?_) rfl (by kernel_rfl) (by kernel_rfl) (by kernel_rfl) (fun _ _ _ h=>h) (Or.inl ⟨by rfl,?_⟩) trivial ?_
           rotate_left
           · (intro w _;go_simp;try with_reducible rfl)
           simp only [Act.put,List.setIfInBounds_toArray]
           refine wpAnyH_ready (rs:=[3]) (by kernel_rfl) (by simp) ?_
           refine AllReadyH.cons rfl (fun K hK=>?_) AllReadyH.nil
           go_simp
           go_at_call 117
           refine (pname_any r (tn10.tail) d _ K21.out.rd).mono ?_
           intro e w9 h
           rw [hnn.out] at h
           obtain ⟨rfl,rr,mm⟩:=h
           clear y0 y1 y2 y3 y4 y5 y6 yf0 yf1 yf2 yf3 yf4 yf5 yf6
           have G23:=Hd (G17.out.sub (name_sfx hnn.out).1)
           have L24:=Hd (((name_sfx hnn.out).1).trans L18.out)
           have K25:=Hd (K21.out.next rr mm)
           clear rr mm
           obtain ⟨y0,y1,y2,y3,y4,y5,y6,yz⟩:=svc K25.out.loc
           have yf0:=yz 0
           have yf1:=yz 1
           have yf2:=yz 2
           have yf3:=yz 3
           have yf4:=yz 4
           have yf5:=yz 5
           have yf6:=yz 6
           clear yz
           refine hK.out _ _ trivial (fun _=>?_)
           clear hK K
           try simp only [Act.put,stT,stZ,stS]
           refine wpAnyH_ready (rs:=[5]) (by kernel_rfl) (by simp) ?_
           refine AllReadyH.cons rfl (fun K hK=>?_) AllReadyH.nil
           go_simp
           refine hK.out _ _ trivial (fun _=>?_)
           clear hK K
           try simp only [Act.put,stT,stZ,stS]
           refine wpAnyH_take (i:=6) (v:=?_) rfl (by kernel_rfl) (by kernel_rfl) (by kernel_rfl) (fun _ _ _ h=>h) (Or.inl ⟨by rfl,?_⟩) trivial ?_
           rotate_left
           · (intro w _;go_simp;try with_reducible rfl)
           simp only [Act.put,List.setIfInBounds_toArray]
           refine wpAnyH_ready (rs:=[7]) (by kernel_rfl) (by simp) ?_
           refine AllReadyH.cons rfl (fun K hK=>?_) AllReadyH.nil
           go_simp
           refine hK.out _ _ trivial (fun _=>?_)
           clear hK K
           try simp only [Act.put,stT,stZ,stS]
           refine wpAnyH_done (by kernel_rfl) ?_ _
           go_wp2_with fail
           clear y0 y1 y2 y3 y4 y5 y6 yf0 yf1 yf2 yf3 yf4 yf5 yf6
           have K26:Hid (S1 w r ((w9.setCell ⟨w10.heap.size,1,none⟩ (.string n)).setCell ⟨w10.heap.size,2,none⟩ (.string n2)) _ (w10.heap.size) (.cells #[.int .i64 0,.string n,.string n2,.slice none 0 0,.slice none 0 0,.string ⟨#[]⟩,.slice none 0 0] 72 (0,0)) _ d):=Hd ((K25.out.put 1 (.string n)).put 2 (.string n2))
           generalize ((w9.setCell ⟨w10.heap.size,1,none⟩ (.string n)).setCell ⟨w10.heap.size,2,none⟩ (.string n2))=wz27 at K26 ⊢
           refine (args_any false d (nt2) r _ G23.out hd K26.out.rd K26.out.k).mono ?_
           intro e w28 h
           cases hv:argsR false d (nt2) with
           | error x =>
             rw [hv] at h
             obtain ⟨rfl,m⟩:=of_err h
             exact ⟨rfl,HQ.out _ _ (per (by simp only [selOne,fieldR,restR,E8.out,E13.out,E19.out,E22.out,hv,if_true,if_false,Bool.false_eq_true]) (K26.out.mv.trans m))⟩
           | ok p =>
             obtain ⟨g,tp28⟩:=p
             rw [hv] at h
             obtain ⟨⟨v,rfl,hl⟩,rr,mm⟩:=of_ok h
             obtain ⟨A3,kA3,rfl,hts⟩:=row_open hl
             have G29:=Hd (G23.out.sub (args_sfx hv))
             have L30:=Hd (((args_sfx hv)).trans L24.out)
             have K31:=Hd (K26.out.next rr mm)
             have O32:=Hd (Ov.of hts K26.out.blt)
             have E33:=Hd hv
             clear rr mm hv hl hts h
             obtain ⟨y0,y1,y2,y3,y4,y5,y6,yz⟩:=svc K31.out.loc
             have yf0:=yz 0
             have yf1:=yz 1
             have yf2:=yz 2
             have yf3:=yz 3
             have yf4:=yz 4
             have yf5:=yz 5
             have yf6:=yz 6
             clear yz
             go_wp2_with fail
             clear y0 y1 y2 y3 y4 y5 y6 yf0 yf1 yf2 yf3 yf4 yf5 yf6
             have K34:Hid (S1 w r (w28.setCell ⟨w10.heap.size,3,none⟩ (.slice A3 (encM g).len kA3)) _ (w10.heap.size) (.cells #[.int .i64 0,.string n,.string n2,.slice A3 (encM g).len kA3,.slice none 0 0,.string ⟨#[]⟩,.slice none 0 0] 72 (0,0)) _ d):=Hd (K31.out.put 3 (.slice A3 (encM g).len kA3))
             have O35:Hid (Ov (w10.heap.size) (w28.setCell ⟨w10.heap.size,3,none⟩ (.slice A3 (encM g).len kA3)) _ _):=Hd (O32.out.put (i:=3) (v:=.slice A3 (encM g).len kA3) (Nat.le_refl _))
             generalize (w28.setCell ⟨w10.heap.size,3,none⟩ (.slice A3 (encM g).len kA3))=wz36 at K34 O35 ⊢
             refine (dirs_any false d (tp28) r _ G29.out hd K34.out.rd K34.out.k).mono ?_
             intro e w37 h
             cases hv:dirsR false d (tp28) with
             | error x =>
               rw [hv] at h
               obtain ⟨rfl,m⟩:=of_err h
               exact ⟨rfl,HQ.out _ _ (per (by simp only [selOne,fieldR,restR,E8.out,E13.out,E19.out,E22.out,E33.out,hv,if_true,if_false,Bool.false_eq_true]) (K34.out.mv.trans m))⟩
             | ok p =>
               obtain ⟨ds,tp37⟩:=p
               rw [hv] at h
               obtain ⟨⟨v,rfl,hl⟩,rr,mm⟩:=of_ok h
               obtain ⟨A4,kA4,rfl,hts⟩:=row_open hl
               have G38:=Hd (G29.out.sub (dirs_sfx hv))
               have L39:=Hd (((dirs_sfx hv)).trans L30.out)
               have K40:=Hd (K34.out.next rr mm)
               have O41:=Hd (O35.out.next mm K34.out.rb)
               have O42:=Hd (Ov.of hts K34.out.blt)
               have E43:=Hd hv
               clear rr mm hv hl hts h
               obtain ⟨y0,y1,y2,y3,y4,y5,y6,yz⟩:=svc K40.out.loc
               have yf0:=yz 0
               have yf1:=yz 1
               have yf2:=yz 2
               have yf3:=yz 3
               have yf4:=yz 4
               have yf5:=yz 5
               have yf6:=yz 6
               clear yz
               go_wp2_with fail
               clear y0 y1 y2 y3 y4 y5 y6 yf0 yf1 yf2 yf3 yf4 yf5 yf6
               have K44:Hid (S1 w r (w37.setCell ⟨w10.heap.size,4,none⟩ (.slice A4 (rowOf encD ds).len kA4)) _ (w10.heap.size) (.cells #[.int .i64 0,.string n,.string n2,.slice A3 (encM g).len kA3,.slice A4 (rowOf encD ds).len kA4,.string ⟨#[]⟩,.slice none 0 0] 72 (0,0)) _ d):=Hd (K40.out.put 4 (.slice A4 (rowOf encD ds).len kA4))
               have O45:Hid (Ov (w10.heap.size) (w37.setCell ⟨w10.heap.size,4,none⟩ (.slice A4 (rowOf encD ds).len kA4)) _ _):=Hd (O41.out.put (i:=4) (v:=.slice A4 (rowOf encD ds).len kA4) (Nat.le_refl _))
               have O46:Hid (Ov (w10.heap.size) (w37.setCell ⟨w10.heap.size,4,none⟩ (.slice A4 (rowOf encD ds).len kA4)) _ _):=Hd (O42.out.put (i:=4) (v:=.slice A4 (rowOf encD ds).len kA4) (Nat.le_refl _))
               generalize (w37.setCell ⟨w10.heap.size,4,none⟩ (.slice A4 (rowOf encD ds).len kA4))=wz47 at K44 O45 O46 ⊢
               refine (at_any r tp37 d 1 omB _ K44.out.rd).mono ?_
               intro e w48 h
               cases hb:atB 1 omB tp37 with
               | true =>
                 rw [hb] at h
                 obtain ⟨rfl,rfl⟩:=h
                 have E49:=Hd hb
                 clear hb
                 go_wp2_with fail
                 refine (HSS.out (tp37) _ G38.out (L39.out.length_le) K44.out.rd K44.out.k).mono ?_
                 intro e w50 h
                 cases hv:S (tp37) with
                 | error x =>
                   rw [hv] at h
                   obtain ⟨rfl,m⟩:=of_err h
                   exact ⟨rfl,HQ.out _ _ (per (by simp only [selOne,fieldR,restR,E8.out,E13.out,E19.out,E22.out,E33.out,E43.out,E49.out,hv,if_true,if_false,Bool.false_eq_true]) (K44.out.mv.trans m))⟩
                 | ok p =>
                   obtain ⟨sq,tp50⟩:=p
                   rw [hv] at h
                   obtain ⟨⟨v,rfl,hl⟩,rr,mm⟩:=of_ok h
                   obtain ⟨A6,kA6,rfl,hts⟩:=row_open hl
                   have G51:=Hd (G38.out.sub (HFF.out _ _ _ hv).1)
                   have L52:=Hd (((HFF.out _ _ _ hv).1).trans L39.out)
                   have K53:=Hd (K44.out.next rr mm)
                   have O54:=Hd (O45.out.next mm K44.out.rb)
                   have O55:=Hd (O46.out.next mm K44.out.rb)
                   have O56:=Hd (Ov.of hts K44.out.blt)
                   have E57:=Hd hv
                   clear rr mm hv hl hts h
                   obtain ⟨y0,y1,y2,y3,y4,y5,y6,yz⟩:=svc K53.out.loc
                   have yf0:=yz 0
                   have yf1:=yz 1
                   have yf2:=yz 2
                   have yf3:=yz 3
                   have yf4:=yz 4
                   have yf5:=yz 5
                   have yf6:=yz 6
                   clear yz
                   go_upto_region 10 with fail
                   clear y0 y1 y2 y3 y4 y5 y6 yf0 yf1 yf2 yf3 yf4 yf5 yf6
                   have K58:Hid (S1 w r (w50.setCell ⟨w10.heap.size,6,none⟩ (.slice A6 (encSL sq).len kA6)) _ (w10.heap.size) (.cells #[.int .i64 0,.string n,.string n2,.slice A3 (encM g).len kA3,.slice A4 (rowOf encD ds).len kA4,.string ⟨#[]⟩,.slice A6 (encSL sq).len kA6] 72 (0,0)) _ d):=Hd (K53.out.put 6 (.slice A6 (encSL sq).len kA6))
                   have O59:Hid (Ov (w10.heap.size) (w50.setCell ⟨w10.heap.size,6,none⟩ (.slice A6 (encSL sq).len kA6)) _ _):=Hd (O54.out.put (i:=6) (v:=.slice A6 (encSL sq).len kA6) (Nat.le_refl _))
                   have O60:Hid (Ov (w10.heap.size) (w50.setCell ⟨w10.heap.size,6,none⟩ (.slice A6 (encSL sq).len kA6)) _ _):=Hd (O55.out.put (i:=6) (v:=.slice A6 (encSL sq).len kA6) (Nat.le_refl _))
                   have O61:Hid (Ov (w10.heap.size) (w50.setCell ⟨w10.heap.size,6,none⟩ (.slice A6 (encSL sq).len kA6)) _ _):=Hd (O56.out.put (i:=6) (v:=.slice A6 (encSL sq).len kA6) (Nat.le_refl _))
                   generalize (w50.setCell ⟨w10.heap.size,6,none⟩ (.slice A6 (encSL sq).len kA6))=wz62 at K58 O59 O60 O61 ⊢
                   obtain ⟨y0,y1,y2,y3,y4,y5,y6,yz⟩:=svc K58.out.loc
                   have yf0:=yz 0
                   have yf1:=yz 1
                   have yf2:=yz 2
                   have yf3:=yz 3
                   have yf4:=yz 4
                   have yf5:=yz 5
                   have yf6:=yz 6
                   clear yz
                   obtain ⟨x0,x1,x2,x3,x4,x5,x6,xz⟩:=svc K58.out.res
                   have xf0:=xz 0
                   have xf1:=xz 1
                   have xf2:=xz 2
                   have xf3:=xz 3
                   have xf4:=xz 4
                   have xf5:=xz 5
                   have xf6:=xz 6
                   clear xz
                   go_wp2_with fail
                   clear y0 y1 y2 y3 y4 y5 y6 yf0 yf1 yf2 yf3 yf4 yf5 yf6 x0 x1 x2 x3 x4 x5 x6 xf0 xf1 xf2 xf3 xf4 xf5 xf6
                   obtain ⟨f1,f2,f3⟩:=S1.fin (ys:=[.int .i64 0,.string ⟨#[]⟩,.string ⟨#[]⟩,.slice none 0 0,.slice none 0 0,.string ⟨#[]⟩,.slice none 0 0]) K58.out [.int .i64 0,.string n,.string n2,.slice A3 (encM g).len kA3,.slice A4 (rowOf encD ds).len kA4,.string ⟨#[]⟩,.slice A6 (encSL sq).len kA6] rfl
                   have Fg:=O59.out.fin (w:=w) (Nat.le_of_lt K58.out.bl) [.int .i64 0,.string n,.string n2,.slice A3 (encM g).len kA3,.slice A4 (rowOf encD ds).len kA4,.string ⟨#[]⟩,.slice A6 (encSL sq).len kA6]
                   have Fd:=O60.out.fin (w:=w) (Nat.le_of_lt K58.out.bl) [.int .i64 0,.string n,.string n2,.slice A3 (encM g).len kA3,.slice A4 (rowOf encD ds).len kA4,.string ⟨#[]⟩,.slice A6 (encSL sq).len kA6]
                   have Fs:=O61.out.fin (w:=w) (Nat.le_of_lt K58.out.bl) [.int .i64 0,.string n,.string n2,.slice A3 (encM g).len kA3,.slice A4 (rowOf encD ds).len kA4,.string ⟨#[]⟩,.slice A6 (encSL sq).len kA6]
                   have FP:=HQ.out _ _ (post_ok (a:=.mk 0 n n2 g ds eB sq) (by simp only [selOne,fieldR,restR,E8.out,E13.out,E19.out,E22.out,E33.out,E43.out,E49.out,E57.out,if_true,if_false,Bool.false_eq_true]) ⟨[.int .i64 0,.string n,.string n2,.slice A3 (encM g).len kA3,.slice A4 (rowOf encD ds).len kA4,.string ⟨#[]⟩,.slice A6 (encSL sq).len kA6],rfl,(by rw [encS];exact TS.int (TS.str Nn.out (TS.str Nn2.out (TS.row Fg (TS.row Fd (TS.str (Nat.zero_le _) (TS.row Fs (TS.nil _ _))))))))⟩ f2 f3)
                   exact ret_st rfl rfl rfl f1 Tryz.underlying72 ⟨_,rfl⟩ (by kernel_rfl) FP
               | false =>
                 rw [hb] at h
                 obtain ⟨rfl,rfl⟩:=h
                 have E63:=Hd hb
                 clear hb
                 obtain ⟨y0,y1,y2,y3,y4,y5,y6,yz⟩:=svc K44.out.loc
                 have yf0:=yz 0
                 have yf1:=yz 1
                 have yf2:=yz 2
                 have yf3:=yz 3
                 have yf4:=yz 4
                 have yf5:=yz 5
                 have yf6:=yz 6
                 clear yz
                 obtain ⟨x0,x1,x2,x3,x4,x5,x6,xz⟩:=svc K44.out.res
                 have xf0:=xz 0
                 have xf1:=xz 1
                 have xf2:=xz 2
                 have xf3:=xz 3
                 have xf4:=xz 4
                 have xf5:=xz 5
                 have xf6:=xz 6
                 clear xz
                 go_wp2_with fail
                 clear y0 y1 y2 y3 y4 y5 y6 yf0 yf1 yf2 yf3 yf4 yf5 yf6 x0 x1 x2 x3 x4 x5 x6 xf0 xf1 xf2 xf3 xf4 xf5 xf6
                 obtain ⟨f1,f2,f3⟩:=S1.fin (ys:=[.int .i64 0,.string ⟨#[]⟩,.string ⟨#[]⟩,.slice none 0 0,.slice none 0 0,.string ⟨#[]⟩,.slice none 0 0]) K44.out [.int .i64 0,.string n,.string n2,.slice A3 (encM g).len kA3,.slice A4 (rowOf encD ds).len kA4,.string ⟨#[]⟩,.slice none 0 0] rfl
                 have Fg:=O45.out.fin (w:=w) (Nat.le_of_lt K44.out.bl) [.int .i64 0,.string n,.string n2,.slice A3 (encM g).len kA3,.slice A4 (rowOf encD ds).len kA4,.string ⟨#[]⟩,.slice none 0 0]
                 have Fd:=O46.out.fin (w:=w) (Nat.le_of_lt K44.out.bl) [.int .i64 0,.string n,.string n2,.slice A3 (encM g).len kA3,.slice A4 (rowOf encD ds).len kA4,.string ⟨#[]⟩,.slice none 0 0]
                 have FP:=HQ.out _ _ (post_ok (a:=.mk 0 n n2 g ds eB .nil) (by simp only [selOne,fieldR,restR,E8.out,E13.out,E19.out,E22.out,E33.out,E43.out,E63.out,if_true,if_false,Bool.false_eq_true]) ⟨[.int .i64 0,.string n,.string n2,.slice A3 (encM g).len kA3,.slice A4 (rowOf encD ds).len kA4,.string ⟨#[]⟩,.slice none 0 0],rfl,(by rw [encS];exact TS.int (TS.str Nn.out (TS.str Nn2.out (TS.row Fg (TS.row Fd (TS.str (Nat.zero_le _) (TS.row (show TP _ _ (.row (encSL .nil)) _ by rw [encSL];exact TP.none _ _) (TS.nil _ _))))))))⟩ f2 f3)
                 exact ret_st rfl rfl rfl f1 Tryz.underlying72 ⟨_,rfl⟩ (by kernel_rfl) FP
         refine AllReadyH.cons rfl (fun K hK=>?_) AllReadyH.nil
         go_simp
         go_at_call 117
         refine (pname_any r (tn10.tail) d _ K21.out.rd).mono ?_
         intro e w9 h
         rw [hnn.out] at h
         obtain ⟨rfl,rr,mm⟩:=h
         clear y0 y1 y2 y3 y4 y5 y6 yf0 yf1 yf2 yf3 yf4 yf5 yf6
         have G64:=Hd (G17.out.sub (name_sfx hnn.out).1)
         have L65:=Hd (((name_sfx hnn.out).1).trans L18.out)
         have K66:=Hd (K21.out.next rr mm)
         clear rr mm
         obtain ⟨y0,y1,y2,y3,y4,y5,y6,yz⟩:=svc K66.out.loc
         have yf0:=yz 0
         have yf1:=yz 1
         have yf2:=yz 2
         have yf3:=yz 3
         have yf4:=yz 4
         have yf5:=yz 5
         have yf6:=yz 6
         clear yz
         refine hK.out _ _ trivial (fun _=>?_)
         clear hK K
         try simp only [Act.put,stT,stZ,stS]
         refine wpAnyH_ready (rs:=[1]) (by kernel_rfl) (by simp) ?_
         refine AllReadyH.cons rfl (fun K hK=>?_) AllReadyH.nil
         go_simp
         refine hK.out _ _ trivial (fun _=>?_)
         clear hK K
         try simp only [Act.put,stT,stZ,stS]
         refine wpAnyH_take (i:=4) (v:=?_) rfl (by kernel_rfl) (by kernel_rfl) (by kernel_rfl) (fun _ _ _ h=>h) (Or.inl ⟨by rfl,?_⟩) trivial ?_
         rotate_left
         · (intro w _;go_simp;try with_reducible rfl)
         simp only [Act.put,List.setIfInBounds_toArray]
         refine wpAnyH_ready (rs:=[5]) (by kernel_rfl) (by simp) ?_
         refine AllReadyH.cons rfl (fun K hK=>?_) AllReadyH.nil
         go_simp
         refine hK.out _ _ trivial (fun _=>?_)
         clear hK K
         try simp only [Act.put,stT,stZ,stS]
         refine wpAnyH_take (i:=6) (v:=?_) rfl (by kernel_rfl) (by kernel_rfl) (by kernel_rfl) (fun _ _ _ h=>h) (Or.inl ⟨by rfl,?_⟩) trivial ?_
         rotate_left
         · (intro w _;go_simp;try with_reducible rfl)
         simp only [Act.put,List.setIfInBounds_toArray]
         refine wpAnyH_ready (rs:=[7]) (by kernel_rfl) (by simp) ?_
         refine AllReadyH.cons rfl (fun K hK=>?_) AllReadyH.nil
         go_simp
         refine hK.out _ _ trivial (fun _=>?_)
         clear hK K
         try simp only [Act.put,stT,stZ,stS]
         refine wpAnyH_done (by kernel_rfl) ?_ _
         go_wp2_with fail
         clear y0 y1 y2 y3 y4 y5 y6 yf0 yf1 yf2 yf3 yf4 yf5 yf6
         have K67:Hid (S1 w r ((w9.setCell ⟨w10.heap.size,1,none⟩ (.string n)).setCell ⟨w10.heap.size,2,none⟩ (.string n2)) _ (w10.heap.size) (.cells #[.int .i64 0,.string n,.string n2,.slice none 0 0,.slice none 0 0,.string ⟨#[]⟩,.slice none 0 0] 72 (0,0)) _ d):=Hd ((K66.out.put 1 (.string n)).put 2 (.string n2))
         generalize ((w9.setCell ⟨w10.heap.size,1,none⟩ (.string n)).setCell ⟨w10.heap.size,2,none⟩ (.string n2))=wz68 at K67 ⊢
         refine (args_any false d (nt2) r _ G64.out hd K67.out.rd K67.out.k).mono ?_
         intro e w69 h
         cases hv:argsR false d (nt2) with
         | error x =>
           rw [hv] at h
           obtain ⟨rfl,m⟩:=of_err h
           exact ⟨rfl,HQ.out _ _ (per (by simp only [selOne,fieldR,restR,E8.out,E13.out,E19.out,E22.out,hv,if_true,if_false,Bool.false_eq_true]) (K67.out.mv.trans m))⟩
         | ok p =>
           obtain ⟨g,tp69⟩:=p
           rw [hv] at h
           obtain ⟨⟨v,rfl,hl⟩,rr,mm⟩:=of_ok h
           obtain ⟨A3,kA3,rfl,hts⟩:=row_open hl
           have G70:=Hd (G64.out.sub (args_sfx hv))
           have L71:=Hd (((args_sfx hv)).trans L65.out)
           have K72:=Hd (K67.out.next rr mm)
           have O73:=Hd (Ov.of hts K67.out.blt)
           have E74:=Hd hv
           clear rr mm hv hl hts h
           obtain ⟨y0,y1,y2,y3,y4,y5,y6,yz⟩:=svc K72.out.loc
           have yf0:=yz 0
           have yf1:=yz 1
           have yf2:=yz 2
           have yf3:=yz 3
           have yf4:=yz 4
           have yf5:=yz 5
           have yf6:=yz 6
           clear yz
           go_wp2_with fail
           clear y0 y1 y2 y3 y4 y5 y6 yf0 yf1 yf2 yf3 yf4 yf5 yf6
           have K75:Hid (S1 w r (w69.setCell ⟨w10.heap.size,3,none⟩ (.slice A3 (encM g).len kA3)) _ (w10.heap.size) (.cells #[.int .i64 0,.string n,.string n2,.slice A3 (encM g).len kA3,.slice none 0 0,.string ⟨#[]⟩,.slice none 0 0] 72 (0,0)) _ d):=Hd (K72.out.put 3 (.slice A3 (encM g).len kA3))
           have O76:Hid (Ov (w10.heap.size) (w69.setCell ⟨w10.heap.size,3,none⟩ (.slice A3 (encM g).len kA3)) _ _):=Hd (O73.out.put (i:=3) (v:=.slice A3 (encM g).len kA3) (Nat.le_refl _))
           generalize (w69.setCell ⟨w10.heap.size,3,none⟩ (.slice A3 (encM g).len kA3))=wz77 at K75 O76 ⊢
           refine (dirs_any false d (tp69) r _ G70.out hd K75.out.rd K75.out.k).mono ?_
           intro e w78 h
           cases hv:dirsR false d (tp69) with
           | error x =>
             rw [hv] at h
             obtain ⟨rfl,m⟩:=of_err h
             exact ⟨rfl,HQ.out _ _ (per (by simp only [selOne,fieldR,restR,E8.out,E13.out,E19.out,E22.out,E74.out,hv,if_true,if_false,Bool.false_eq_true]) (K75.out.mv.trans m))⟩
           | ok p =>
             obtain ⟨ds,tp78⟩:=p
             rw [hv] at h
             obtain ⟨⟨v,rfl,hl⟩,rr,mm⟩:=of_ok h
             obtain ⟨A4,kA4,rfl,hts⟩:=row_open hl
             have G79:=Hd (G70.out.sub (dirs_sfx hv))
             have L80:=Hd (((dirs_sfx hv)).trans L71.out)
             have K81:=Hd (K75.out.next rr mm)
             have O82:=Hd (O76.out.next mm K75.out.rb)
             have O83:=Hd (Ov.of hts K75.out.blt)
             have E84:=Hd hv
             clear rr mm hv hl hts h
             obtain ⟨y0,y1,y2,y3,y4,y5,y6,yz⟩:=svc K81.out.loc
             have yf0:=yz 0
             have yf1:=yz 1
             have yf2:=yz 2
             have yf3:=yz 3
             have yf4:=yz 4
             have yf5:=yz 5
             have yf6:=yz 6
             clear yz
             go_wp2_with fail
             clear y0 y1 y2 y3 y4 y5 y6 yf0 yf1 yf2 yf3 yf4 yf5 yf6
             have K85:Hid (S1 w r (w78.setCell ⟨w10.heap.size,4,none⟩ (.slice A4 (rowOf encD ds).len kA4)) _ (w10.heap.size) (.cells #[.int .i64 0,.string n,.string n2,.slice A3 (encM g).len kA3,.slice A4 (rowOf encD ds).len kA4,.string ⟨#[]⟩,.slice none 0 0] 72 (0,0)) _ d):=Hd (K81.out.put 4 (.slice A4 (rowOf encD ds).len kA4))
             have O86:Hid (Ov (w10.heap.size) (w78.setCell ⟨w10.heap.size,4,none⟩ (.slice A4 (rowOf encD ds).len kA4)) _ _):=Hd (O82.out.put (i:=4) (v:=.slice A4 (rowOf encD ds).len kA4) (Nat.le_refl _))
             have O87:Hid (Ov (w10.heap.size) (w78.setCell ⟨w10.heap.size,4,none⟩ (.slice A4 (rowOf encD ds).len kA4)) _ _):=Hd (O83.out.put (i:=4) (v:=.slice A4 (rowOf encD ds).len kA4) (Nat.le_refl _))
             generalize (w78.setCell ⟨w10.heap.size,4,none⟩ (.slice A4 (rowOf encD ds).len kA4))=wz88 at K85 O86 O87 ⊢
             refine (at_any r tp78 d 1 omB _ K85.out.rd).mono ?_
             intro e w89 h
             cases hb:atB 1 omB tp78 with
             | true =>
               rw [hb] at h
               obtain ⟨rfl,rfl⟩:=h
               have E90:=Hd hb
               clear hb
               go_wp2_with fail
               refine (HSS.out (tp78) _ G79.out (L80.out.length_le) K85.out.rd K85.out.k).mono ?_
               intro e w91 h
               cases hv:S (tp78) with
               | error x =>
                 rw [hv] at h
                 obtain ⟨rfl,m⟩:=of_err h
                 exact ⟨rfl,HQ.out _ _ (per (by simp only [selOne,fieldR,restR,E8.out,E13.out,E19.out,E22.out,E74.out,E84.out,E90.out,hv,if_true,if_false,Bool.false_eq_true]) (K85.out.mv.trans m))⟩
               | ok p =>
                 obtain ⟨sq,tp91⟩:=p
                 rw [hv] at h
                 obtain ⟨⟨v,rfl,hl⟩,rr,mm⟩:=of_ok h
                 obtain ⟨A6,kA6,rfl,hts⟩:=row_open hl
                 have G92:=Hd (G79.out.sub (HFF.out _ _ _ hv).1)
                 have L93:=Hd (((HFF.out _ _ _ hv).1).trans L80.out)
                 have K94:=Hd (K85.out.next rr mm)
                 have O95:=Hd (O86.out.next mm K85.out.rb)
                 have O96:=Hd (O87.out.next mm K85.out.rb)
                 have O97:=Hd (Ov.of hts K85.out.blt)
                 have E98:=Hd hv
                 clear rr mm hv hl hts h
                 obtain ⟨y0,y1,y2,y3,y4,y5,y6,yz⟩:=svc K94.out.loc
                 have yf0:=yz 0
                 have yf1:=yz 1
                 have yf2:=yz 2
                 have yf3:=yz 3
                 have yf4:=yz 4
                 have yf5:=yz 5
                 have yf6:=yz 6
                 clear yz
                 go_upto_region 10 with fail
                 clear y0 y1 y2 y3 y4 y5 y6 yf0 yf1 yf2 yf3 yf4 yf5 yf6
                 have K99:Hid (S1 w r (w91.setCell ⟨w10.heap.size,6,none⟩ (.slice A6 (encSL sq).len kA6)) _ (w10.heap.size) (.cells #[.int .i64 0,.string n,.string n2,.slice A3 (encM g).len kA3,.slice A4 (rowOf encD ds).len kA4,.string ⟨#[]⟩,.slice A6 (encSL sq).len kA6] 72 (0,0)) _ d):=Hd (K94.out.put 6 (.slice A6 (encSL sq).len kA6))
                 have O100:Hid (Ov (w10.heap.size) (w91.setCell ⟨w10.heap.size,6,none⟩ (.slice A6 (encSL sq).len kA6)) _ _):=Hd (O95.out.put (i:=6) (v:=.slice A6 (encSL sq).len kA6) (Nat.le_refl _))
                 have O101:Hid (Ov (w10.heap.size) (w91.setCell ⟨w10.heap.size,6,none⟩ (.slice A6 (encSL sq).len kA6)) _ _):=Hd (O96.out.put (i:=6) (v:=.slice A6 (encSL sq).len kA6) (Nat.le_refl _))
                 have O102:Hid (Ov (w10.heap.size) (w91.setCell ⟨w10.heap.size,6,none⟩ (.slice A6 (encSL sq).len kA6)) _ _):=Hd (O97.out.put (i:=6) (v:=.slice A6 (encSL sq).len kA6) (Nat.le_refl _))
                 generalize (w91.setCell ⟨w10.heap.size,6,none⟩ (.slice A6 (encSL sq).len kA6))=wz103 at K99 O100 O101 O102 ⊢
                 obtain ⟨y0,y1,y2,y3,y4,y5,y6,yz⟩:=svc K99.out.loc
                 have yf0:=yz 0
                 have yf1:=yz 1
                 have yf2:=yz 2
                 have yf3:=yz 3
                 have yf4:=yz 4
                 have yf5:=yz 5
                 have yf6:=yz 6
                 clear yz
                 obtain ⟨x0,x1,x2,x3,x4,x5,x6,xz⟩:=svc K99.out.res
                 have xf0:=xz 0
                 have xf1:=xz 1
                 have xf2:=xz 2
                 have xf3:=xz 3
                 have xf4:=xz 4
                 have xf5:=xz 5
                 have xf6:=xz 6
                 clear xz
                 go_wp2_with fail
                 clear y0 y1 y2 y3 y4 y5 y6 yf0 yf1 yf2 yf3 yf4 yf5 yf6 x0 x1 x2 x3 x4 x5 x6 xf0 xf1 xf2 xf3 xf4 xf5 xf6
                 obtain ⟨f1,f2,f3⟩:=S1.fin (ys:=[.int .i64 0,.string ⟨#[]⟩,.string ⟨#[]⟩,.slice none 0 0,.slice none 0 0,.string ⟨#[]⟩,.slice none 0 0]) K99.out [.int .i64 0,.string n,.string n2,.slice A3 (encM g).len kA3,.slice A4 (rowOf encD ds).len kA4,.string ⟨#[]⟩,.slice A6 (encSL sq).len kA6] rfl
                 have Fg:=O100.out.fin (w:=w) (Nat.le_of_lt K99.out.bl) [.int .i64 0,.string n,.string n2,.slice A3 (encM g).len kA3,.slice A4 (rowOf encD ds).len kA4,.string ⟨#[]⟩,.slice A6 (encSL sq).len kA6]
                 have Fd:=O101.out.fin (w:=w) (Nat.le_of_lt K99.out.bl) [.int .i64 0,.string n,.string n2,.slice A3 (encM g).len kA3,.slice A4 (rowOf encD ds).len kA4,.string ⟨#[]⟩,.slice A6 (encSL sq).len kA6]
                 have Fs:=O102.out.fin (w:=w) (Nat.le_of_lt K99.out.bl) [.int .i64 0,.string n,.string n2,.slice A3 (encM g).len kA3,.slice A4 (rowOf encD ds).len kA4,.string ⟨#[]⟩,.slice A6 (encSL sq).len kA6]
                 have FP:=HQ.out _ _ (post_ok (a:=.mk 0 n n2 g ds eB sq) (by simp only [selOne,fieldR,restR,E8.out,E13.out,E19.out,E22.out,E74.out,E84.out,E90.out,E98.out,if_true,if_false,Bool.false_eq_true]) ⟨[.int .i64 0,.string n,.string n2,.slice A3 (encM g).len kA3,.slice A4 (rowOf encD ds).len kA4,.string ⟨#[]⟩,.slice A6 (encSL sq).len kA6],rfl,(by rw [encS];exact TS.int (TS.str Nn.out (TS.str Nn2.out (TS.row Fg (TS.row Fd (TS.str (Nat.zero_le _) (TS.row Fs (TS.nil _ _))))))))⟩ f2 f3)
                 exact ret_st rfl rfl rfl f1 Tryz.underlying72 ⟨_,rfl⟩ (by kernel_rfl) FP
             | false =>
               rw [hb] at h
               obtain ⟨rfl,rfl⟩:=h
               have E104:=Hd hb
               clear hb
               obtain ⟨y0,y1,y2,y3,y4,y5,y6,yz⟩:=svc K85.out.loc
               have yf0:=yz 0
               have yf1:=yz 1
               have yf2:=yz 2
               have yf3:=yz 3
               have yf4:=yz 4
               have yf5:=yz 5
               have yf6:=yz 6
               clear yz
               obtain ⟨x0,x1,x2,x3,x4,x5,x6,xz⟩:=svc K85.out.res
               have xf0:=xz 0
               have xf1:=xz 1
               have xf2:=xz 2
               have xf3:=xz 3
               have xf4:=xz 4
               have xf5:=xz 5
               have xf6:=xz 6
               clear xz
               go_wp2_with fail
               clear y0 y1 y2 y3 y4 y5 y6 yf0 yf1 yf2 yf3 yf4 yf5 yf6 x0 x1 x2 x3 x4 x5 x6 xf0 xf1 xf2 xf3 xf4 xf5 xf6
               obtain ⟨f1,f2,f3⟩:=S1.fin (ys:=[.int .i64 0,.string ⟨#[]⟩,.string ⟨#[]⟩,.slice none 0 0,.slice none 0 0,.string ⟨#[]⟩,.slice none 0 0]) K85.out [.int .i64 0,.string n,.string n2,.slice A3 (encM g).len kA3,.slice A4 (rowOf encD ds).len kA4,.string ⟨#[]⟩,.slice none 0 0] rfl
               have Fg:=O86.out.fin (w:=w) (Nat.le_of_lt K85.out.bl) [.int .i64 0,.string n,.string n2,.slice A3 (encM g).len kA3,.slice A4 (rowOf encD ds).len kA4,.string ⟨#[]⟩,.slice none 0 0]
               have Fd:=O87.out.fin (w:=w) (Nat.le_of_lt K85.out.bl) [.int .i64 0,.string n,.string n2,.slice A3 (encM g).len kA3,.slice A4 (rowOf encD ds).len kA4,.string ⟨#[]⟩,.slice none 0 0]
               have FP:=HQ.out _ _ (post_ok (a:=.mk 0 n n2 g ds eB .nil) (by simp only [selOne,fieldR,restR,E8.out,E13.out,E19.out,E22.out,E74.out,E84.out,E104.out,if_true,if_false,Bool.false_eq_true]) ⟨[.int .i64 0,.string n,.string n2,.slice A3 (encM g).len kA3,.slice A4 (rowOf encD ds).len kA4,.string ⟨#[]⟩,.slice none 0 0],rfl,(by rw [encS];exact TS.int (TS.str Nn.out (TS.str Nn2.out (TS.row Fg (TS.row Fd (TS.str (Nat.zero_le _) (TS.row (show TP _ _ (.row (encSL .nil)) _ by rw [encSL];exact TP.none _ _) (TS.nil _ _))))))))⟩ f2 f3)
               exact ret_st rfl rfl rfl f1 Tryz.underlying72 ⟨_,rfl⟩ (by kernel_rfl) FP
     | false =>
       rw [hb] at h
       obtain ⟨rfl,rr,mm⟩:=h
       rw [skip_no hb] at rr
       have E105:=Hd hb
       have K106:=Hd (K15.out.next rr mm)
       clear rr mm hb
       go_wp2_with fail
       refine (args_any false d (tn10) r _ G11.out hd K106.out.rd K106.out.k).mono ?_
       intro e w107 h
       cases hv:argsR false d (tn10) with
       | error x =>
         rw [hv] at h
         obtain ⟨rfl,m⟩:=of_err h
         exact ⟨rfl,HQ.out _ _ (per (by simp only [selOne,fieldR,restR,E8.out,E13.out,E105.out,hv,if_false,Bool.false_eq_true]) (K106.out.mv.trans m))⟩
       | ok p =>
         obtain ⟨g,tp107⟩:=p
         rw [hv] at h
         obtain ⟨⟨v,rfl,hl⟩,rr,mm⟩:=of_ok h
         obtain ⟨A3,kA3,rfl,hts⟩:=row_open hl
         have G108:=Hd (G11.out.sub (args_sfx hv))
         have L109:=Hd (((args_sfx hv)).trans L12.out)
         have K110:=Hd (K106.out.next rr mm)
         have O111:=Hd (Ov.of hts K106.out.blt)
         have E112:=Hd hv
         clear rr mm hv hl hts h
         obtain ⟨y0,y1,y2,y3,y4,y5,y6,yz⟩:=svc K110.out.loc
         have yf0:=yz 0
         have yf1:=yz 1
         have yf2:=yz 2
         have yf3:=yz 3
         have yf4:=yz 4
         have yf5:=yz 5
         have yf6:=yz 6
         clear yz
         go_wp2_with fail
         clear y0 y1 y2 y3 y4 y5 y6 yf0 yf1 yf2 yf3 yf4 yf5 yf6
         have K113:Hid (S1 w r (w107.setCell ⟨w10.heap.size,3,none⟩ (.slice A3 (encM g).len kA3)) _ (w10.heap.size) (.cells #[.int .i64 0,.string ⟨#[]⟩,.string n,.slice A3 (encM g).len kA3,.slice none 0 0,.string ⟨#[]⟩,.slice none 0 0] 72 (0,0)) _ d):=Hd (K110.out.put 3 (.slice A3 (encM g).len kA3))
         have O114:Hid (Ov (w10.heap.size) (w107.setCell ⟨w10.heap.size,3,none⟩ (.slice A3 (encM g).len kA3)) _ _):=Hd (O111.out.put (i:=3) (v:=.slice A3 (encM g).len kA3) (Nat.le_refl _))
         generalize (w107.setCell ⟨w10.heap.size,3,none⟩ (.slice A3 (encM g).len kA3))=wz115 at K113 O114 ⊢
         refine (dirs_any false d (tp107) r _ G108.out hd K113.out.rd K113.out.k).mono ?_
         intro e w116 h
         cases hv:dirsR false d (tp107) with
         | error x =>
           rw [hv] at h
           obtain ⟨rfl,m⟩:=of_err h
           exact ⟨rfl,HQ.out _ _ (per (by simp only [selOne,fieldR,restR,E8.out,E13.out,E105.out,E112.out,hv,if_false,Bool.false_eq_true]) (K113.out.mv.trans m))⟩
         | ok p =>
           obtain ⟨ds,tp116⟩:=p
           rw [hv] at h
           obtain ⟨⟨v,rfl,hl⟩,rr,mm⟩:=of_ok h
           obtain ⟨A4,kA4,rfl,hts⟩:=row_open hl
           have G117:=Hd (G108.out.sub (dirs_sfx hv))
           have L118:=Hd (((dirs_sfx hv)).trans L109.out)
           have K119:=Hd (K113.out.next rr mm)
           have O120:=Hd (O114.out.next mm K113.out.rb)
           have O121:=Hd (Ov.of hts K113.out.blt)
           have E122:=Hd hv
           clear rr mm hv hl hts h
           obtain ⟨y0,y1,y2,y3,y4,y5,y6,yz⟩:=svc K119.out.loc
           have yf0:=yz 0
           have yf1:=yz 1
           have yf2:=yz 2
           have yf3:=yz 3
           have yf4:=yz 4
           have yf5:=yz 5
           have yf6:=yz 6
           clear yz
           go_wp2_with fail
           clear y0 y1 y2 y3 y4 y5 y6 yf0 yf1 yf2 yf3 yf4 yf5 yf6
           have K123:Hid (S1 w r (w116.setCell ⟨w10.heap.size,4,none⟩ (.slice A4 (rowOf encD ds).len kA4)) _ (w10.heap.size) (.cells #[.int .i64 0,.string ⟨#[]⟩,.string n,.slice A3 (encM g).len kA3,.slice A4 (rowOf encD ds).len kA4,.string ⟨#[]⟩,.slice none 0 0] 72 (0,0)) _ d):=Hd (K119.out.put 4 (.slice A4 (rowOf encD ds).len kA4))
           have O124:Hid (Ov (w10.heap.size) (w116.setCell ⟨w10.heap.size,4,none⟩ (.slice A4 (rowOf encD ds).len kA4)) _ _):=Hd (O120.out.put (i:=4) (v:=.slice A4 (rowOf encD ds).len kA4) (Nat.le_refl _))
           have O125:Hid (Ov (w10.heap.size) (w116.setCell ⟨w10.heap.size,4,none⟩ (.slice A4 (rowOf encD ds).len kA4)) _ _):=Hd (O121.out.put (i:=4) (v:=.slice A4 (rowOf encD ds).len kA4) (Nat.le_refl _))
           generalize (w116.setCell ⟨w10.heap.size,4,none⟩ (.slice A4 (rowOf encD ds).len kA4))=wz126 at K123 O124 O125 ⊢
           refine (at_any r tp116 d 1 omB _ K123.out.rd).mono ?_
           intro e w127 h
           cases hb:atB 1 omB tp116 with
           | true =>
             rw [hb] at h
             obtain ⟨rfl,rfl⟩:=h
             have E128:=Hd hb
             clear hb
             go_wp2_with fail
             refine (HSS.out (tp116) _ G117.out (L118.out.length_le) K123.out.rd K123.out.k).mono ?_
             intro e w129 h
             cases hv:S (tp116) with
             | error x =>
               rw [hv] at h
               obtain ⟨rfl,m⟩:=of_err h
               exact ⟨rfl,HQ.out _ _ (per (by simp only [selOne,fieldR,restR,E8.out,E13.out,E105.out,E112.out,E122.out,E128.out,hv,if_true,if_false,Bool.false_eq_true]) (K123.out.mv.trans m))⟩
             | ok p =>
               obtain ⟨sq,tp129⟩:=p
               rw [hv] at h
               obtain ⟨⟨v,rfl,hl⟩,rr,mm⟩:=of_ok h
               obtain ⟨A6,kA6,rfl,hts⟩:=row_open hl
               have G130:=Hd (G117.out.sub (HFF.out _ _ _ hv).1)
               have L131:=Hd (((HFF.out _ _ _ hv).1).trans L118.out)
               have K132:=Hd (K123.out.next rr mm)
               have O133:=Hd (O124.out.next mm K123.out.rb)
               have O134:=Hd (O125.out.next mm K123.out.rb)
               have O135:=Hd (Ov.of hts K123.out.blt)
               have E136:=Hd hv
               clear rr mm hv hl hts h
               obtain ⟨y0,y1,y2,y3,y4,y5,y6,yz⟩:=svc K132.out.loc
               have yf0:=yz 0
               have yf1:=yz 1
               have yf2:=yz 2
               have yf3:=yz 3
               have yf4:=yz 4
               have yf5:=yz 5
               have yf6:=yz 6
               clear yz
               go_upto_region 10 with fail
               clear y0 y1 y2 y3 y4 y5 y6 yf0 yf1 yf2 yf3 yf4 yf5 yf6
               have K137:Hid (S1 w r (w129.setCell ⟨w10.heap.size,6,none⟩ (.slice A6 (encSL sq).len kA6)) _ (w10.heap.size) (.cells #[.int .i64 0,.string ⟨#[]⟩,.string n,.slice A3 (encM g).len kA3,.slice A4 (rowOf encD ds).len kA4,.string ⟨#[]⟩,.slice A6 (encSL sq).len kA6] 72 (0,0)) _ d):=Hd (K132.out.put 6 (.slice A6 (encSL sq).len kA6))
               have O138:Hid (Ov (w10.heap.size) (w129.setCell ⟨w10.heap.size,6,none⟩ (.slice A6 (encSL sq).len kA6)) _ _):=Hd (O133.out.put (i:=6) (v:=.slice A6 (encSL sq).len kA6) (Nat.le_refl _))
               have O139:Hid (Ov (w10.heap.size) (w129.setCell ⟨w10.heap.size,6,none⟩ (.slice A6 (encSL sq).len kA6)) _ _):=Hd (O134.out.put (i:=6) (v:=.slice A6 (encSL sq).len kA6) (Nat.le_refl _))
               have O140:Hid (Ov (w10.heap.size) (w129.setCell ⟨w10.heap.size,6,none⟩ (.slice A6 (encSL sq).len kA6)) _ _):=Hd (O135.out.put (i:=6) (v:=.slice A6 (encSL sq).len kA6) (Nat.le_refl _))
               generalize (w129.setCell ⟨w10.heap.size,6,none⟩ (.slice A6 (encSL sq).len kA6))=wz141 at K137 O138 O139 O140 ⊢
               obtain ⟨y0,y1,y2,y3,y4,y5,y6,yz⟩:=svc K137.out.loc
               have yf0:=yz 0
               have yf1:=yz 1
               have yf2:=yz 2
               have yf3:=yz 3
               have yf4:=yz 4
               have yf5:=yz 5
               have yf6:=yz 6
               clear yz
               obtain ⟨x0,x1,x2,x3,x4,x5,x6,xz⟩:=svc K137.out.res
               have xf0:=xz 0
               have xf1:=xz 1
               have xf2:=xz 2
               have xf3:=xz 3
               have xf4:=xz 4
               have xf5:=xz 5
               have xf6:=xz 6
               clear xz
               go_wp2_with fail
               clear y0 y1 y2 y3 y4 y5 y6 yf0 yf1 yf2 yf3 yf4 yf5 yf6 x0 x1 x2 x3 x4 x5 x6 xf0 xf1 xf2 xf3 xf4 xf5 xf6
               obtain ⟨f1,f2,f3⟩:=S1.fin (ys:=[.int .i64 0,.string ⟨#[]⟩,.string ⟨#[]⟩,.slice none 0 0,.slice none 0 0,.string ⟨#[]⟩,.slice none 0 0]) K137.out [.int .i64 0,.string ⟨#[]⟩,.string n,.slice A3 (encM g).len kA3,.slice A4 (rowOf encD ds).len kA4,.string ⟨#[]⟩,.slice A6 (encSL sq).len kA6] rfl
               have Fg:=O138.out.fin (w:=w) (Nat.le_of_lt K137.out.bl) [.int .i64 0,.string ⟨#[]⟩,.string n,.slice A3 (encM g).len kA3,.slice A4 (rowOf encD ds).len kA4,.string ⟨#[]⟩,.slice A6 (encSL sq).len kA6]
               have Fd:=O139.out.fin (w:=w) (Nat.le_of_lt K137.out.bl) [.int .i64 0,.string ⟨#[]⟩,.string n,.slice A3 (encM g).len kA3,.slice A4 (rowOf encD ds).len kA4,.string ⟨#[]⟩,.slice A6 (encSL sq).len kA6]
               have Fs:=O140.out.fin (w:=w) (Nat.le_of_lt K137.out.bl) [.int .i64 0,.string ⟨#[]⟩,.string n,.slice A3 (encM g).len kA3,.slice A4 (rowOf encD ds).len kA4,.string ⟨#[]⟩,.slice A6 (encSL sq).len kA6]
               have FP:=HQ.out _ _ (post_ok (a:=.mk 0 eB n g ds eB sq) (by simp only [selOne,fieldR,restR,E8.out,E13.out,E105.out,E112.out,E122.out,E128.out,E136.out,if_true,if_false,Bool.false_eq_true]) ⟨[.int .i64 0,.string ⟨#[]⟩,.string n,.slice A3 (encM g).len kA3,.slice A4 (rowOf encD ds).len kA4,.string ⟨#[]⟩,.slice A6 (encSL sq).len kA6],rfl,(by rw [encS];exact TS.int (TS.str (Nat.zero_le _) (TS.str Nn.out (TS.row Fg (TS.row Fd (TS.str (Nat.zero_le _) (TS.row Fs (TS.nil _ _))))))))⟩ f2 f3)
               exact ret_st rfl rfl rfl f1 Tryz.underlying72 ⟨_,rfl⟩ (by kernel_rfl) FP
           | false =>
             rw [hb] at h
             obtain ⟨rfl,rfl⟩:=h
             have E142:=Hd hb
             clear hb
             obtain ⟨y0,y1,y2,y3,y4,y5,y6,yz⟩:=svc K123.out.loc
             have yf0:=yz 0
             have yf1:=yz 1
             have yf2:=yz 2
             have yf3:=yz 3
             have yf4:=yz 4
             have yf5:=yz 5
             have yf6:=yz 6
             clear yz
             obtain ⟨x0,x1,x2,x3,x4,x5,x6,xz⟩:=svc K123.out.res
             have xf0:=xz 0
             have xf1:=xz 1
             have xf2:=xz 2
             have xf3:=xz 3
             have xf4:=xz 4
             have xf5:=xz 5
             have xf6:=xz 6
             clear xz
             go_wp2_with fail
             clear y0 y1 y2 y3 y4 y5 y6 yf0 yf1 yf2 yf3 yf4 yf5 yf6 x0 x1 x2 x3 x4 x5 x6 xf0 xf1 xf2 xf3 xf4 xf5 xf6
             obtain ⟨f1,f2,f3⟩:=S1.fin (ys:=[.int .i64 0,.string ⟨#[]⟩,.string ⟨#[]⟩,.slice none 0 0,.slice none 0 0,.string ⟨#[]⟩,.slice none 0 0]) K123.out [.int .i64 0,.string ⟨#[]⟩,.string n,.slice A3 (encM g).len kA3,.slice A4 (rowOf encD ds).len kA4,.string ⟨#[]⟩,.slice none 0 0] rfl
             have Fg:=O124.out.fin (w:=w) (Nat.le_of_lt K123.out.bl) [.int .i64 0,.string ⟨#[]⟩,.string n,.slice A3 (encM g).len kA3,.slice A4 (rowOf encD ds).len kA4,.string ⟨#[]⟩,.slice none 0 0]
             have Fd:=O125.out.fin (w:=w) (Nat.le_of_lt K123.out.bl) [.int .i64 0,.string ⟨#[]⟩,.string n,.slice A3 (encM g).len kA3,.slice A4 (rowOf encD ds).len kA4,.string ⟨#[]⟩,.slice none 0 0]
             have FP:=HQ.out _ _ (post_ok (a:=.mk 0 eB n g ds eB .nil) (by simp only [selOne,fieldR,restR,E8.out,E13.out,E105.out,E112.out,E122.out,E142.out,if_false,Bool.false_eq_true]) ⟨[.int .i64 0,.string ⟨#[]⟩,.string n,.slice A3 (encM g).len kA3,.slice A4 (rowOf encD ds).len kA4,.string ⟨#[]⟩,.slice none 0 0],rfl,(by rw [encS];exact TS.int (TS.str (Nat.zero_le _) (TS.str Nn.out (TS.row Fg (TS.row Fd (TS.str (Nat.zero_le _) (TS.row (show TP _ _ (.row (encSL .nil)) _ by rw [encSL];exact TP.none _ _) (TS.nil _ _))))))))⟩ f2 f3)
             exact ret_st rfl rfl rfl f1 Tryz.underlying72 ⟨_,rfl⟩ (by kernel_rfl) FP
end Go.Proofs.YtpkmbhnikilihaaGreatDoor
