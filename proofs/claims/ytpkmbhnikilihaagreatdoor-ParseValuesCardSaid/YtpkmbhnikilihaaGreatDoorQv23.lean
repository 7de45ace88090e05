/- The landed variable. -/
import Derived.Test.YtpkmbhnikilihaaGreatDoorQv22
import Derived.Deep.Cut
set_option maxRecDepth 100000
set_option maxHeartbeats 8000000
namespace Go.Proofs.YtpkmbhnikilihaaGreatDoor
open Go.RowKit
theorem zero_ts (w:World) (P:Nat→Prop):TS w P (encV zeroT) [.int .i64 0,.int .i64 0,.string ⟨#[]⟩,.slice none 0 0,.slice none 0 0]:=vp_ts _ _ _ _ _ _ (flat_vp w P 0 0 eB (Nat.zero_le _))
theorem variable_any (d:Nat) (ts:List Tok) (r:Nat) (w:World) (hG:GoodD ts) (hd:d≤16) (hR:Rd w r ts d) (hK:KRd r w):Calls Tryz.prog 176 #[.pointer (some ⟨r,0,none⟩)] w (Post r d w (layS encVar) (varR d ts)):=by
 suffices H:∀ Q:Ending→World→Prop,(∀ e w',Post r d w (layS encVar) (varR d ts) e w'→Q e w')→Calls Tryz.prog 176 #[.pointer (some ⟨r,0,none⟩)] w Q from H _ (fun _ _ h=>h)
 intro Q hQ
 have HQ:=Hd hQ
 have K0:=Hd (S0.start hR hK #[.string ⟨#[]⟩,.string ⟨#[]⟩,.int .i64 0,.int .i64 0,.bool false,.int .i64 0,.int .i64 0,.string ⟨#[]⟩,.slice none 0 0,.slice none 0 0] 119)
 have G0:=Hd hG
 clear hQ hR hK hG
 go_enter Tryz.func176,Tryz.ntmps176
 go_wp2_with fail
 refine (need_any r ts d 1 dolB _ K0.out.rd).mono ?_
 intro e w1 h
 cases hb:atB 1 dolB ts with
 | false =>
   rw [hb] at h
   simp only [Bool.false_eq_true,if_false] at h
   obtain ⟨rfl,m⟩:=h
   exact ⟨rfl,HQ.out _ _ (per (by simp only [varR,hb,if_false,Bool.false_eq_true]) (K0.out.mv.trans m))⟩
 | true =>
   rw [hb] at h
   simp only [if_true] at h
   obtain ⟨rfl,rr,mm⟩:=h
   have G2:=Hd (G0.out.sub (at_sfx hb).1)
   have E3:=Hd hb
   have K4:=Hd (K0.out.next rr mm)
   clear rr mm hb
   go_wp2_with fail
   refine (pname_any r (ts.tail) d _ K4.out.rd).mono ?_
   intro e w5 h
   cases hn:nameR (ts.tail) with
   | none =>
     rw [hn] at h
     obtain ⟨rfl,m⟩:=h
     exact ⟨rfl,HQ.out _ _ (per (by simp only [varR,E3.out,hn,if_true]) (K4.out.mv.trans m))⟩
   | some p =>
     obtain ⟨nm,tn5⟩:=p
     rw [hn] at h
     obtain ⟨rfl,rr,mm⟩:=h
     have Nnm:=Hd (G2.out.name hn)
     have G6:=Hd (G2.out.sub (name_sfx hn).1)
     have E7:=Hd hn
     have K8:=Hd (K4.out.next rr mm)
     clear rr mm hn
     go_wp2_with fail
     have K9:=Hd (S1.make K8.out #[.string nm,.string ⟨#[]⟩,.int .i64 0,.int .i64 0,.bool false,.int .i64 0,.int .i64 0,.string ⟨#[]⟩,.slice none 0 0,.slice none 0 0] 119)
     refine (need_any r tn5 d 1 colB _ K9.out.rd).mono ?_
     intro e w10 h
     cases hb:atB 1 colB tn5 with
     | false =>
       rw [hb] at h
       simp only [Bool.false_eq_true,if_false] at h
       obtain ⟨rfl,m⟩:=h
       exact ⟨rfl,HQ.out _ _ (per (by simp only [varR,E3.out,E7.out,hb,if_true,if_false,Bool.false_eq_true]) (K9.out.mv.trans m))⟩
     | true =>
       rw [hb] at h
       simp only [if_true] at h
       obtain ⟨rfl,rr,mm⟩:=h
       have G11:=Hd (G6.out.sub (at_sfx hb).1)
       have E12:=Hd hb
       have K13:=Hd (K9.out.next rr mm)
       clear rr mm hb
       go_wp2_with fail
       refine (wrapped_any tn5.tail G11.out.2 r d _ K13.out.rd).mono ?_
       intro e w14 h
       cases hv:typeR 4 (tn5.tail) with
       | error x =>
         rw [hv] at h
         obtain ⟨rfl,m⟩:=id h
         exact ⟨rfl,HQ.out _ _ (per (by simp only [varR,E3.out,E7.out,E12.out,hv,if_true]) (K13.out.mv.trans m))⟩
       | ok p =>
         obtain ⟨⟨tn,tl,tm⟩,tp14⟩:=p
         rw [hv] at h
         obtain ⟨rfl,rr,mm⟩:=h
         have NT:=Hd (type_right 4 _ G11.out.2 _ _ _ _ hv).2.1
         have G15:=Hd (G11.out.sub (typ_sfx 4 _ _ _ hv).1)
         have K16:=Hd (K13.out.next rr mm)
         have E17:=Hd hv
         clear rr mm hv
         obtain ⟨y0,y1,y2,y3,y4,y5,y6,y7,y8,y9,yz⟩:=ten_cells K16.out.loc
         have yf0:=yz 0
         have yf1:=yz 1
         have yf2:=yz 2
         have yf3:=yz 3
         have yf4:=yz 4
         have yf5:=yz 5
         have yf6:=yz 6
         have yf7:=yz 7
         have yf8:=yz 8
         have yf9:=yz 9
         clear yz
         go_wp2_with fail
         clear y0 y1 y2 y3 y4 y5 y6 y7 y8 y9 yf0 yf1 yf2 yf3 yf4 yf5 yf6 yf7 yf8 yf9
         have K18:Hid (S1 w r (((w14.setCell ⟨w5.heap.size,1,none⟩ (.string tn)).setCell ⟨w5.heap.size,2,none⟩ (.int .i64 (tl:Int))).setCell ⟨w5.heap.size,3,none⟩ (.int .i64 (tm:Int))) _ (w5.heap.size) (.cells #[.string nm,.string tn,.int .i64 (tl:Int),.int .i64 (tm:Int),.bool false,.int .i64 0,.int .i64 0,.string ⟨#[]⟩,.slice none 0 0,.slice none 0 0] 119 (0,0)) _ d):=Hd (((K16.out.put 1 (.string tn)).put 2 (.int .i64 (tl:Int))).put 3 (.int .i64 (tm:Int)))
         refine (skip_any r tp14 d 1 eqB _ K18.out.rd).mono ?_
         intro e w19 h
         cases hb:atB 1 eqB tp14 with
         | true =>
           rw [hb] at h
           obtain ⟨rfl,rr,mm⟩:=h
           rw [skip_yes hb] at rr
           have G20:=Hd (G15.out.sub (at_sfx hb).1)
           have E21:=Hd hb
           have K22:=Hd (K18.out.next rr mm)
           clear rr mm hb
           obtain ⟨y0,y1,y2,y3,y4,y5,y6,y7,y8,y9,yz⟩:=ten_cells K22.out.loc
           have yf0:=yz 0
           have yf1:=yz 1
           have yf2:=yz 2
           have yf3:=yz 3
           have yf4:=yz 4
           have yf5:=yz 5
           have yf6:=yz 6
           have yf7:=yz 7
           have yf8:=yz 8
           have yf9:=yz 9
           clear yz
           go_wp2_with fail
           clear y0 y1 y2 y3 y4 y5 y6 y7 y8 y9 yf0 yf1 yf2 yf3 yf4 yf5 yf6 yf7 yf8 yf9
           have K23:Hid (S1 w r (w19.setCell ⟨w5.heap.size,4,none⟩ (.bool true)) _ (w5.heap.size) (.cells #[.string nm,.string tn,.int .i64 (tl:Int),.int .i64 (tm:Int),.bool true,.int .i64 0,.int .i64 0,.string ⟨#[]⟩,.slice none 0 0,.slice none 0 0] 119 (0,0)) _ d):=Hd (K22.out.put 4 (.bool true))
           refine (val_post true d (tp14.tail) r _ G20.out hd K23.out.rd K23.out.k).mono ?_
           intro e w24 h
           cases hv:valD true d (tp14.tail) with
           | error x =>
             rw [hv] at h
             obtain ⟨rfl,m⟩:=of_err h
             exact ⟨rfl,HQ.out _ _ (per (by simp only [varR,E3.out,E7.out,E12.out,E17.out,E21.out,hv,if_true]) (K23.out.mv.trans m))⟩
           | ok p =>
             obtain ⟨v0,tp24⟩:=p
             rw [hv] at h
             obtain ⟨⟨v,rfl,hl⟩,rr,mm⟩:=of_ok h
             obtain ⟨vk,vn,vs,A3,n3,k3,A4,n4,k4,rfl,hts⟩:=val_open hl
             have G25:=Hd (G20.out.sub (val_sfx hv).1)
             have K26:=Hd (K23.out.next rr mm)
             have O27:=Hd (OvS.of hts K23.out.blt)
             have E28:=Hd hv
             clear rr mm hv hl hts h
             obtain ⟨y0,y1,y2,y3,y4,y5,y6,y7,y8,y9,yz⟩:=ten_cells K26.out.loc
             have yf0:=yz 0
             have yf1:=yz 1
             have yf2:=yz 2
             have yf3:=yz 3
             have yf4:=yz 4
             have yf5:=yz 5
             have yf6:=yz 6
             have yf7:=yz 7
             have yf8:=yz 8
             have yf9:=yz 9
             clear yz
             go_upto_region 8 with fail
             clear y0 y1 y2 y3 y4 y5 y6 y7 y8 y9 yf0 yf1 yf2 yf3 yf4 yf5 yf6 yf7 yf8 yf9
             have K29:Hid (S1 w r (((((w24.setCell ⟨w5.heap.size,5,none⟩ (.int .i64 vk)).setCell ⟨w5.heap.size,6,none⟩ (.int .i64 vn)).setCell ⟨w5.heap.size,7,none⟩ (.string vs)).setCell ⟨w5.heap.size,8,none⟩ (.slice A3 n3 k3)).setCell ⟨w5.heap.size,9,none⟩ (.slice A4 n4 k4)) _ (w5.heap.size) (.cells #[.string nm,.string tn,.int .i64 (tl:Int),.int .i64 (tm:Int),.bool true,.int .i64 vk,.int .i64 vn,.string vs,.slice A3 n3 k3,.slice A4 n4 k4] 119 (0,0)) _ d):=Hd (((((K26.out.put 5 (.int .i64 vk)).put 6 (.int .i64 vn)).put 7 (.string vs)).put 8 (.slice A3 n3 k3)).put 9 (.slice A4 n4 k4))
             have O30:Hid (OvS (w5.heap.size) (((((w24.setCell ⟨w5.heap.size,5,none⟩ (.int .i64 vk)).setCell ⟨w5.heap.size,6,none⟩ (.int .i64 vn)).setCell ⟨w5.heap.size,7,none⟩ (.string vs)).setCell ⟨w5.heap.size,8,none⟩ (.slice A3 n3 k3)).setCell ⟨w5.heap.size,9,none⟩ (.slice A4 n4 k4)) _ _):=Hd (((((O27.out.put (i:=5) (v:=.int .i64 vk) (Nat.le_refl _)).put (i:=6) (v:=.int .i64 vn) (Nat.le_refl _)).put (i:=7) (v:=.string vs) (Nat.le_refl _)).put (i:=8) (v:=.slice A3 n3 k3) (Nat.le_refl _)).put (i:=9) (v:=.slice A4 n4 k4) (Nat.le_refl _))
             generalize (((((w24.setCell ⟨w5.heap.size,5,none⟩ (.int .i64 vk)).setCell ⟨w5.heap.size,6,none⟩ (.int .i64 vn)).setCell ⟨w5.heap.size,7,none⟩ (.string vs)).setCell ⟨w5.heap.size,8,none⟩ (.slice A3 n3 k3)).setCell ⟨w5.heap.size,9,none⟩ (.slice A4 n4 k4))=wz31 at K29 O30 ⊢
             obtain ⟨y0,y1,y2,y3,y4,y5,y6,y7,y8,y9,yz⟩:=ten_cells K29.out.loc
             have yf0:=yz 0
             have yf1:=yz 1
             have yf2:=yz 2
             have yf3:=yz 3
             have yf4:=yz 4
             have yf5:=yz 5
             have yf6:=yz 6
             have yf7:=yz 7
             have yf8:=yz 8
             have yf9:=yz 9
             clear yz
             obtain ⟨x0,x1,x2,x3,x4,x5,x6,x7,x8,x9,xz⟩:=ten_cells K29.out.res
             have xf0:=xz 0
             have xf1:=xz 1
             have xf2:=xz 2
             have xf3:=xz 3
             have xf4:=xz 4
             have xf5:=xz 5
             have xf6:=xz 6
             have xf7:=xz 7
             have xf8:=xz 8
             have xf9:=xz 9
             clear xz
             go_wp2_with fail
             clear y0 y1 y2 y3 y4 y5 y6 y7 y8 y9 yf0 yf1 yf2 yf3 yf4 yf5 yf6 yf7 yf8 yf9 x0 x1 x2 x3 x4 x5 x6 x7 x8 x9 xf0 xf1 xf2 xf3 xf4 xf5 xf6 xf7 xf8 xf9
             obtain ⟨f1,f2,f3⟩:=S1.fin (ys:=[.string ⟨#[]⟩,.string ⟨#[]⟩,.int .i64 0,.int .i64 0,.bool false,.int .i64 0,.int .i64 0,.string ⟨#[]⟩,.slice none 0 0,.slice none 0 0]) K29.out [.string nm,.string tn,.int .i64 (tl:Int),.int .i64 (tm:Int),.bool true,.int .i64 vk,.int .i64 vn,.string vs,.slice A3 n3 k3,.slice A4 n4 k4] rfl
             have Fv:=O30.out.fin (w:=w) (Nat.le_of_lt K29.out.bl) [.string nm,.string tn,.int .i64 (tl:Int),.int .i64 (tm:Int),.bool true,.int .i64 vk,.int .i64 vn,.string vs,.slice A3 n3 k3,.slice A4 n4 k4]
             have FP:=HQ.out _ _ (post_ok (a:=⟨nm,tn,tl,tm,true,v0⟩) (by simp only [varR,E3.out,E7.out,E12.out,E17.out,E21.out,E28.out,if_true]) ⟨[.string nm,.string tn,.int .i64 (tl:Int),.int .i64 (tm:Int),.bool true,.int .i64 vk,.int .i64 vn,.string vs,.slice A3 n3 k3,.slice A4 n4 k4],rfl,TS.str Nnm.out (TS.str NT.out (TS.int (TS.int (TS.bool Fv))))⟩ f2 f3)
             exact ret_st rfl rfl rfl f1 Tryz.underlying119 ⟨_,rfl⟩ (by kernel_rfl) FP
         | false =>
           rw [hb] at h
           obtain ⟨rfl,rr,mm⟩:=h
           rw [skip_no hb] at rr
           have E32:=Hd hb
           have K33:=Hd (K18.out.next rr mm)
           clear rr mm hb
           obtain ⟨y0,y1,y2,y3,y4,y5,y6,y7,y8,y9,yz⟩:=ten_cells K33.out.loc
           have yf0:=yz 0
           have yf1:=yz 1
           have yf2:=yz 2
           have yf3:=yz 3
           have yf4:=yz 4
           have yf5:=yz 5
           have yf6:=yz 6
           have yf7:=yz 7
           have yf8:=yz 8
           have yf9:=yz 9
           clear yz
           obtain ⟨x0,x1,x2,x3,x4,x5,x6,x7,x8,x9,xz⟩:=ten_cells K33.out.res
           have xf0:=xz 0
           have xf1:=xz 1
           have xf2:=xz 2
           have xf3:=xz 3
           have xf4:=xz 4
           have xf5:=xz 5
           have xf6:=xz 6
           have xf7:=xz 7
           have xf8:=xz 8
           have xf9:=xz 9
           clear xz
           go_wp2_with fail
           clear y0 y1 y2 y3 y4 y5 y6 y7 y8 y9 yf0 yf1 yf2 yf3 yf4 yf5 yf6 yf7 yf8 yf9 x0 x1 x2 x3 x4 x5 x6 x7 x8 x9 xf0 xf1 xf2 xf3 xf4 xf5 xf6 xf7 xf8 xf9
           obtain ⟨f1,f2,f3⟩:=S1.fin (ys:=[.string ⟨#[]⟩,.string ⟨#[]⟩,.int .i64 0,.int .i64 0,.bool false,.int .i64 0,.int .i64 0,.string ⟨#[]⟩,.slice none 0 0,.slice none 0 0]) K33.out [.string nm,.string tn,.int .i64 (tl:Int),.int .i64 (tm:Int),.bool false,.int .i64 0,.int .i64 0,.string ⟨#[]⟩,.slice none 0 0,.slice none 0 0] rfl
           have FP:=HQ.out _ _ (post_ok (a:=⟨nm,tn,tl,tm,false,zeroT⟩) (by simp only [varR,E3.out,E7.out,E12.out,E17.out,E32.out,if_true,if_false,Bool.false_eq_true]) ⟨[.string nm,.string tn,.int .i64 (tl:Int),.int .i64 (tm:Int),.bool false,.int .i64 0,.int .i64 0,.string ⟨#[]⟩,.slice none 0 0,.slice none 0 0],rfl,TS.str Nnm.out (TS.str NT.out (TS.int (TS.int (TS.bool (zero_ts _ _)))))⟩ f2 f3)
           exact ret_st rfl rfl rfl f1 Tryz.underlying119 ⟨_,rfl⟩ (by kernel_rfl) FP
theorem info_V:(Tryz.prog.info? 119).map (fun i=>(i.zero,i.size,i.bytes))=some (some (.agg #[.string ⟨#[]⟩,.string ⟨#[]⟩,.int .i64 0,.int .i64 0,.bool false,.int .i64 0,.int .i64 0,.string ⟨#[]⟩,.slice none 0 0,.slice none 0 0]),10,136):=by kernel_rfl
theorem serV_any (one:List Tok→Except Int ((VarT) × List Tok)) (hS:∀ ts a r,one ts=.ok (a,r)→Sfx r ts) (r d:Nat) (ts:List Tok) (w:World)
  (HC:∀ tq wx,GoodD tq→tq.length≤ts.length→Rd wx r tq d→KRd r wx→NoX r wx→Calls Tryz.prog 176 #[.pointer (some ⟨r,0,none⟩)] wx (Post r d wx (layS encVar) (one tq)))
  (hG:GoodD ts) (hR:Rd w r ts d) (hK:KRd r w) (hX:NoX r w):Calls Tryz.prog 175 #[.pointer (some ⟨r,0,none⟩),.string cpB,.func (.func 176) #[.pointer (some ⟨r,0,none⟩)] #[]] w (Post r d w (layR (rowOf encVar)) (serR one addL cpB (ts.length+1) [] ts)):=by
 suffices H:∀ Q:Ending→World→Prop,(∀ e w',Post r d w (layR (rowOf encVar)) (serR one addL cpB (ts.length+1) [] ts) e w'→Q e w')→Calls Tryz.prog 175 #[.pointer (some ⟨r,0,none⟩),.string cpB,.func (.func 176) #[.pointer (some ⟨r,0,none⟩)] #[]] w Q from H _ (fun _ _ h=>h)
 intro Q hQ
 obtain ⟨ti0,hi,hz0,hz1,hz2⟩:=info_parts info_V
 obtain ⟨RES,hRES⟩:∃ RES,serR one addL cpB (ts.length+1) [] ts=RES:=⟨_,rfl⟩
 rw [hRES] at hQ
 have HQ:=Hd hQ
 have HRES:=Hd hRES
 have HCC:=Hd HC
 have HSS:=Hd hS
 have hr:=hR.lt
 have hlen:ts.length≤200000:=by obtain ⟨_,_,_,_,h,_⟩:=hR;exact h
 have B0:=Hd (And.intro hR (And.intro hK (And.intro hG hX)))
 clear hQ hRES HC hS hG hR hK hX
 go_enter Tryz.func175,Tryz.ntmps175
 go_wp2_with fail
 go_loopg [7] (ts.length+1) (fun g out wx=>∃ (acc:List VarT) (tq:List Tok),tq.length+1≤g∧tq.length≤ts.length∧((rowOf encVar) acc).len+tq.length≤200000∧Aside (RTr 119 10 w.heap.size wx out ((rowOf encVar) acc)∧Moved r w wx∧Rd wx r tq d∧KRd r wx∧GoodD tq∧NoX r wx∧serR one addL cpB g acc tq=RES))
 case atStart=>exact ⟨[],ts,Nat.le_refl _,Nat.le_refl _,by rw [show ((rowOf encVar) []).len=0 from rfl];omega,vaside ⟨(RTr.start _ _ _ _),Moved.refl _ _,B0.out.1,B0.out.2.1,B0.out.2.2.1,B0.out.2.2.2,HRES.out⟩⟩
 case round =>
  obtain ⟨acc,tq,hq,hql,hal,HA⟩:=hrel
  obtain ⟨hrt,hmx,hrx,hkx,hgx,hxx,hex⟩:=HA.out
  obtain ⟨xs,P,hown,hvals,hP⟩:=hrt
  obtain ⟨Ao,co,rfl⟩:=shape_own hown
  have KX:=Hd (And.intro hmx (And.intro hrx (And.intro hkx hxx)))
  have GX:=Hd hgx
  have EX:=Hd hex
  have HRT:=Hd (And.intro hown (And.intro hvals hP))
  clear HA hmx hrx hkx hgx hxx hex hown hvals hP
  cases gk with
  | zero=>omega
  | succ g =>
    go_wp2_with fail
    refine (HCC.out tq _ GX.out hql KX.out.2.1 KX.out.2.2.1 KX.out.2.2.2).mono ?_
    intro e w2 h
    cases hv:one tq with
    | error x =>
      rw [hv] at h
      obtain ⟨rfl,m⟩:=of_err h
      exact ⟨rfl,HQ.out _ _ (per (by rw [← EX.out,serR,hv]) (KX.out.1.trans m))⟩
    | ok p =>
      obtain ⟨a,tq2⟩:=p
      rw [hv] at h
      obtain ⟨⟨v,rfl,hl⟩,r2,m2⟩:=of_ok h
      obtain ⟨s0,s1,i2,i3,b4,i5,i6,s7,A8,n8,k8,A9,n9,k9,rfl,hts⟩:=var_open hl
      have hsf:=HSS.out _ _ _ hv
      have hsl:=hsf.2
      have G2:=Hd (GX.out.sub hsf.1)
      have M2:=Hd m2
      have R2:=Hd r2
      have T2:=Hd hts
      have hs2:=m2.size
      have hs0:=KX.out.1.size
      have O2:=Hd (own_moved HRT.out.1 m2 hr)
      have HV:=Hd hv
      clear h hv hl hts r2 m2 hsf
      go_wp2_with (at_builtin;refine wpList_append_lies _ rfl _ _ 65 rfl w.heap.size 119 ti0 (.agg #[.string ⟨#[]⟩,.string ⟨#[]⟩,.int .i64 0,.int .i64 0,.bool false,.int .i64 0,.int .i64 0,.string ⟨#[]⟩,.slice none 0 0,.slice none 0 0]) 10 136 Tryz.underlying65 hi hz0 hz1 hz2 rfl (by decide) _ ((rowOf encVar) acc).len xs rfl (own_low O2.out (blw _ _)) _ 1 1 [.string s0,.string s1,.int .i64 i2,.int .i64 i3,.bool b4,.int .i64 i5,.int .i64 i6,.string s7,.slice A8 n8 k8,.slice A9 n9 k9] rfl rfl (fun j u hj=>World.news_of_block (heap_alloc_new _ _) j u hj) (by intro y hy;simp at hy;rcases hy with rfl|rfl|rfl|rfl|rfl|rfl|rfl|rfl|rfl|rfl<;>rfl) (by decide) (by unfold maxLen;omega) (by omega) (by simp;omega) _ rfl ?_;intro gg cap2 w4 hown4 hgrow hat hlt4;have HG4:=Hd hgrow;have HO4:=Hd hown4;have HT4:=Hd hat;clear hgrow hown4 hat)
      have hgk:=grown_keep HG4.out (r:=r) (fun b hb=>by have:=(HRT.out.1.lt b hb).1;omega)
      have R4:=Hd (hgk.1 _ _ (R2.out.below (blw _ _)))
      have D4:=Hd (hgk.2 ((KX.out.2.2.1.moved M2.out).moved (Moved.of_below (blw _ _))))
      have M4:=Hd (show Moved r w w4 from by
        have m:=(KX.out.1.trans M2.out).trans (Moved.of_below (blw _ (.cells #[.string s0,.string s1,.int .i64 i2,.int .i64 i3,.bool b4,.int .i64 i5,.int .i64 i6,.string s7,.slice A8 n8 k8,.slice A9 n9 k9] 119)))
        exact ⟨HG4.out.os.trans m.os,HG4.out.tape.trans m.tape,HG4.out.output.trans m.output,Nat.le_trans m.size HG4.out.size,fun k hk hn=>(HG4.out.block k (Nat.lt_of_lt_of_le hk m.size) (fun e=>by have:=(HRT.out.1.lt k e.symm).1;omega)).trans (m.block k hk hn)⟩)
      have X4:=Hd (show NoX r w4 from trivial)
      have T4:=Hd (RTr.app hr (by omega) HRT.out.1 HRT.out.2.1 HRT.out.2.2 M2.out (TS.keep (fun _ hk=>⟨⟨hk.1,hk.2⟩,rfl⟩) _ _ T2.out) HO4.out HG4.out HT4.out)
      clear hgk
      go_wp2_with fail
      refine (skip_any r tq2 d 1 cpB _ R4.out).mono ?_
      intro e w5 h5
      have hE:=EX.out
      rw [serR,HV.out] at hE
      simp only at hE
      cases hb:atB 1 cpB tq2 with
      | true =>
        rw [hb] at h5 hE
        obtain ⟨rfl,r5,m5⟩:=h5
        rw [skip_yes hb] at r5
        simp only [if_true] at hE
        have T5:=Hd ((T4.out.moved m5 hr).fin (by rw [TrL.snoc_len];omega))
        have R5:=Hd r5
        have M5:=Hd (M4.out.trans m5)
        have E5:=Hd hE
        clear r5 m5 hE hb
        go_wp2_with fail
        exact HQ.out _ _ (post_ok E5.out.symm (show TP _ _ (.row ((rowOf encVar) (addL acc a))) _ by rw [show (rowOf encVar) (addL acc a)=((rowOf encVar) acc).snoc (encVar a) from rowOf_snoc _ _ _];exact T5.out) R5.out M5.out)
      | false =>
        rw [hb] at h5 hE
        obtain ⟨rfl,r5,m5⟩:=h5
        rw [skip_no hb] at r5
        simp only [Bool.false_eq_true,if_false] at hE
        have T5:=Hd (T4.out.moved m5 hr)
        have R5:=Hd r5
        have M5:=Hd (M4.out.trans m5)
        have X5:=Hd (X4.out.moved m5)
        have D5:=Hd (D4.out.moved m5)
        have E5:=Hd hE
        clear r5 m5 hE hb
        go_wp2_with fail
        go_roundg g
        case measure=>omega
        case rel=>exact ⟨addL acc a,tq2,by omega,by omega,by rw [show (rowOf encVar) (addL acc a)=((rowOf encVar) acc).snoc (encVar a) from rowOf_snoc _ _ _,TrL.snoc_len];omega,vaside ⟨by rw [show (rowOf encVar) (addL acc a)=((rowOf encVar) acc).snoc (encVar a) from rowOf_snoc _ _ _];exact T5.out,M5.out,R5.out,D5.out,G2.out,X5.out,E5.out⟩⟩
theorem info_S:(Tryz.prog.info? 72).map (fun i=>(i.zero,i.size,i.bytes))=some (some (.agg #[.int .i64 0,.string ⟨#[]⟩,.string ⟨#[]⟩,.slice none 0 0,.slice none 0 0,.string ⟨#[]⟩,.slice none 0 0]),7,128):=by kernel_rfl
theorem serS_any (one:List Tok→Except Int ((SelT) × List Tok)) (hS:∀ ts a r,one ts=.ok (a,r)→Sfx r ts) (r d:Nat) (ts:List Tok) (w:World)
  (HC:∀ tq wx,GoodD tq→tq.length≤ts.length→Rd wx r tq d→KRd r wx→NoX r wx→Calls Tryz.prog 172 #[.pointer (some ⟨r,0,none⟩)] wx (Post r d wx (layS encS) (one tq)))
  (hG:GoodD ts) (hR:Rd w r ts d) (hK:KRd r w) (hX:NoX r w):Calls Tryz.prog 171 #[.pointer (some ⟨r,0,none⟩),.string cmB,.func (.func 172) #[.pointer (some ⟨r,0,none⟩)] #[]] w (Post r d w (layR encSL) (serR one addS cmB (ts.length+1) .nil ts)):=by
 suffices H:∀ Q:Ending→World→Prop,(∀ e w',Post r d w (layR encSL) (serR one addS cmB (ts.length+1) .nil ts) e w'→Q e w')→Calls Tryz.prog 171 #[.pointer (some ⟨r,0,none⟩),.string cmB,.func (.func 172) #[.pointer (some ⟨r,0,none⟩)] #[]] w Q from H _ (fun _ _ h=>h)
 intro Q hQ
 obtain ⟨ti0,hi,hz0,hz1,hz2⟩:=info_parts info_S
 obtain ⟨RES,hRES⟩:∃ RES,serR one addS cmB (ts.length+1) .nil ts=RES:=⟨_,rfl⟩
 rw [hRES] at hQ
 have HQ:=Hd hQ
 have HRES:=Hd hRES
 have HCC:=Hd HC
 have HSS:=Hd hS
 have hr:=hR.lt
 have hlen:ts.length≤200000:=by obtain ⟨_,_,_,_,h,_⟩:=hR;exact h
 have B0:=Hd (And.intro hR (And.intro hK (And.intro hG hX)))
 clear hQ hRES HC hS hG hR hK hX
 go_enter Tryz.func171,Tryz.ntmps171
 go_wp2_with fail
 go_loopg [7] (ts.length+1) (fun g out wx=>∃ (acc:SelL) (tq:List Tok),tq.length+1≤g∧tq.length≤ts.length∧(encSL acc).len+tq.length≤200000∧Aside (RTr 72 7 w.heap.size wx out (encSL acc)∧Moved r w wx∧Rd wx r tq d∧KRd r wx∧GoodD tq∧NoX r wx∧serR one addS cmB g acc tq=RES))
 case atStart=>exact ⟨.nil,ts,Nat.le_refl _,Nat.le_refl _,by rw [show (encSL .nil).len=0 from (by rw [encSL];rfl)];omega,vaside ⟨(by rw [encSL];exact RTr.start _ _ _ _),Moved.refl _ _,B0.out.1,B0.out.2.1,B0.out.2.2.1,B0.out.2.2.2,HRES.out⟩⟩
 case round =>
  obtain ⟨acc,tq,hq,hql,hal,HA⟩:=hrel
  obtain ⟨hrt,hmx,hrx,hkx,hgx,hxx,hex⟩:=HA.out
  obtain ⟨xs,P,hown,hvals,hP⟩:=hrt
  obtain ⟨Ao,co,rfl⟩:=shape_own hown
  have KX:=Hd (And.intro hmx (And.intro hrx (And.intro hkx hxx)))
  have GX:=Hd hgx
  have EX:=Hd hex
  have HRT:=Hd (And.intro hown (And.intro hvals hP))
  clear HA hmx hrx hkx hgx hxx hex hown hvals hP
  cases gk with
  | zero=>omega
  | succ g =>
    go_wp2_with fail
    refine (HCC.out tq _ GX.out hql KX.out.2.1 KX.out.2.2.1 KX.out.2.2.2).mono ?_
    intro e w2 h
    cases hv:one tq with
    | error x =>
      rw [hv] at h
      obtain ⟨rfl,m⟩:=of_err h
      exact ⟨rfl,HQ.out _ _ (per (by rw [← EX.out,serR,hv]) (KX.out.1.trans m))⟩
    | ok p =>
      obtain ⟨a,tq2⟩:=p
      rw [hv] at h
      obtain ⟨⟨v,rfl,hl⟩,r2,m2⟩:=of_ok h
      obtain ⟨i0,s1,s2,A3,n3,k3,A4,n4,k4,s5,A6,n6,k6,rfl,hts⟩:=sel_open hl
      have hsf:=HSS.out _ _ _ hv
      have hsl:=hsf.2
      have G2:=Hd (GX.out.sub hsf.1)
      have M2:=Hd m2
      have R2:=Hd r2
      have T2:=Hd hts
      have hs2:=m2.size
      have hs0:=KX.out.1.size
      have O2:=Hd (own_moved HRT.out.1 m2 hr)
      have HV:=Hd hv
      clear h hv hl hts r2 m2 hsf
      go_wp2_with (at_builtin;refine wpList_append_lies _ rfl _ _ 59 rfl w.heap.size 72 ti0 (.agg #[.int .i64 0,.string ⟨#[]⟩,.string ⟨#[]⟩,.slice none 0 0,.slice none 0 0,.string ⟨#[]⟩,.slice none 0 0]) 7 128 Tryz.underlying59 hi hz0 hz1 hz2 rfl (by decide) _ (encSL acc).len xs rfl (own_low O2.out (blw _ _)) _ 1 1 [.int .i64 i0,.string s1,.string s2,.slice A3 n3 k3,.slice A4 n4 k4,.string s5,.slice A6 n6 k6] rfl rfl (fun j u hj=>World.news_of_block (heap_alloc_new _ _) j u hj) (by intro y hy;simp at hy;rcases hy with rfl|rfl|rfl|rfl|rfl|rfl|rfl<;>rfl) (by decide) (by unfold maxLen;omega) (by omega) (by simp;omega) _ rfl ?_;intro gg cap2 w4 hown4 hgrow hat hlt4;have HG4:=Hd hgrow;have HO4:=Hd hown4;have HT4:=Hd hat;clear hgrow hown4 hat)
      have hgk:=grown_keep HG4.out (r:=r) (fun b hb=>by have:=(HRT.out.1.lt b hb).1;omega)
      have R4:=Hd (hgk.1 _ _ (R2.out.below (blw _ _)))
      have D4:=Hd (hgk.2 ((KX.out.2.2.1.moved M2.out).moved (Moved.of_below (blw _ _))))
      have M4:=Hd (show Moved r w w4 from by
        have m:=(KX.out.1.trans M2.out).trans (Moved.of_below (blw _ (.cells #[.int .i64 i0,.string s1,.string s2,.slice A3 n3 k3,.slice A4 n4 k4,.string s5,.slice A6 n6 k6] 72)))
        exact ⟨HG4.out.os.trans m.os,HG4.out.tape.trans m.tape,HG4.out.output.trans m.output,Nat.le_trans m.size HG4.out.size,fun k hk hn=>(HG4.out.block k (Nat.lt_of_lt_of_le hk m.size) (fun e=>by have:=(HRT.out.1.lt k e.symm).1;omega)).trans (m.block k hk hn)⟩)
      have X4:=Hd (show NoX r w4 from trivial)
      have T4:=Hd (RTr.app hr (by omega) HRT.out.1 HRT.out.2.1 HRT.out.2.2 M2.out (TS.keep (fun _ hk=>⟨⟨hk.1,hk.2⟩,rfl⟩) _ _ T2.out) HO4.out HG4.out HT4.out)
      clear hgk
      go_wp2_with fail
      refine (skip_any r tq2 d 1 cmB _ R4.out).mono ?_
      intro e w5 h5
      have hE:=EX.out
      rw [serR,HV.out] at hE
      simp only at hE
      cases hb:atB 1 cmB tq2 with
      | true =>
        rw [hb] at h5 hE
        obtain ⟨rfl,r5,m5⟩:=h5
        rw [skip_yes hb] at r5
        simp only [if_true] at hE
        have T5:=Hd ((T4.out.moved m5 hr).fin (by rw [TrL.snoc_len];omega))
        have R5:=Hd r5
        have M5:=Hd (M4.out.trans m5)
        have E5:=Hd hE
        clear r5 m5 hE hb
        go_wp2_with fail
        exact HQ.out _ _ (post_ok E5.out.symm (show TP _ _ (.row (encSL (addS acc a))) _ by rw [show encSL (addS acc a)=(encSL acc).snoc (encS a) from encSL_snoc _ _];exact T5.out) R5.out M5.out)
      | false =>
        rw [hb] at h5 hE
        obtain ⟨rfl,r5,m5⟩:=h5
        rw [skip_no hb] at r5
        simp only [Bool.false_eq_true,if_false] at hE
        have T5:=Hd (T4.out.moved m5 hr)
        have R5:=Hd r5
        have M5:=Hd (M4.out.trans m5)
        have X5:=Hd (X4.out.moved m5)
        have D5:=Hd (D4.out.moved m5)
        have E5:=Hd hE
        clear r5 m5 hE hb
        go_wp2_with fail
        go_roundg g
        case measure=>omega
        case rel=>exact ⟨addS acc a,tq2,by omega,by omega,by rw [show encSL (addS acc a)=(encSL acc).snoc (encS a) from encSL_snoc _ _,TrL.snoc_len];omega,vaside ⟨by rw [show encSL (addS acc a)=(encSL acc).snoc (encS a) from encSL_snoc _ _];exact T5.out,M5.out,R5.out,D5.out,G2.out,X5.out,E5.out⟩⟩
abbrev Rdr (α:Type):=List Tok→Except Int (α × List Tok)
def Str {α:Type} (p:Rdr α):Prop:=∀ ts a r,p ts=.ok (a,r)→Sfx r ts
def bindR {α β:Type} (p:Rdr α) (q:α→Rdr β):Rdr β:=fun ts=>match p ts with | .error x=>.error x | .ok (a,r)=>q a r
def ifR {α:Type} (k:Int) (s:ByteArray) (p q:Rdr α):Rdr α:=fun ts=>if atB k s ts=true then p ts.tail else q ts
def seeR {α:Type} (b:List Tok→Bool) (p q:Rdr α):Rdr α:=fun ts=>if b ts=true then p ts else q ts
def nmR {α:Type} (p:ByteArray→Rdr α) (q:Rdr α):Rdr α:=fun ts=>match nameR ts with|none=>q ts|some (n,r)=>p n r
theorem name_cons (t:Tok) (ts:List Tok):nameR (t :: ts)=if t.1=2 then some (t.2,ts) else none:=rfl
end Go.Proofs.YtpkmbhnikilihaaGreatDoor
