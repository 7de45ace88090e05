/- The document's reader: one selection: inline fragments. (gen_prsel2.py wrote it.) -/
import Derived.Test.YtpkmbhnikilihaaGreatDoorQr25
set_option maxRecDepth 100000
set_option maxHeartbeats 16000000
namespace Go.Proofs.YtpkmbhnikilihaaGreatDoor
open Go.RowKit
variable {nT:Nat}
theorem Ap {w:World} {P:Nat→Prop} {l:TrL} {c:Value} {t:TrS} {cs:List Value} (h:TS w P (.cons (.row l) .nil) [c]) (ht:TS w P t cs):TS w P (.cons (.row l) t) (c :: cs):=by
 unfold TS at h ⊢
 obtain ⟨c1,ys,e,h1,_⟩:=h
 have e:=(List.cons.inj e).1
 subst e
 exact ⟨_,_,rfl,h1,ht⟩
theorem Yk0 (N:Nat) (hN:N≤200000) (IH:Zj2 nT N) (d r:Nat) (S:StP) (w:World) (hG:∀ ts,S=.ok ts→Ze ts) (hL:∀ ts,S=.ok ts→ts.length≤N+1) (hd:d≤16) (h:RP nT w r d S) (h1:isS 1 Yn S=true) (h2:isS 2 onB (tkS Yn S)=false) (h3:F2 (tkS Yn S)=false):Calls Tryz.prog 185 #[.pointer (some ⟨r,0,none⟩)] w (Zy4 nT d r S w):=by
 have K0:=Hd (Q0.start h #[.int .i64 0,.string ⟨#[]⟩,.string ⟨#[]⟩,.slice none 0 0,.slice none 0 0,.string ⟨#[]⟩,.slice none 0 0] 72)
 have HI:=Hd (ris r d S Yn _ K0.out.rd)
 rw [h1] at HI
 have HR:=Hd ((Yf7 (d:=d) h1 h2 h3).trans (Yc5 (X8 d) d ⟨#[]⟩ (tkS Yn S)))
 have HG1:Hid (∀ us,tkS Yn S=.ok us→Ze us):=Hd (C7 hG)
 have HL1:Hid (∀ us,tkS Yn S=.ok us→us.length≤N):=Hd (fun us e=>by
   obtain ⟨u2,e2,_,l2⟩:=F6 e
   have:=hL _ e2
   omega)
 have HGD:=HG1
 have HLD:=HL1
 have HDR:=fun wy (hr:RP nT wy r d (tkS Yn S))=>Hd (Zvb false d r (tkS Yn S) wy HGD.out (fun us e=>Nat.le_trans (HLD.out us e) hN) hd hr)
 have HSR:=fun wy (hr:RP nT wy r d (Yk (Za (Zp false d) (tkS Yn S))))=>Hd (IH d (Yk (Za (Zp false d) (tkS Yn S))) r wy (fun us e=>by
   obtain ⟨a,e1,_⟩:=J0 e
   obtain ⟨vs,e2,hp⟩:=Xs e1
   exact Zr (Im false d vs a us hp) (HGD.out _ e2)) (fun us e=>by
   obtain ⟨a,e1,_⟩:=J0 e
   obtain ⟨vs,e2,hp⟩:=Xs e1
   have:=(Im false d vs a us hp).length_le
   have:=HLD.out _ e2
   omega) hd hr)
 have HON:=Hd h2
 have e2:((V6 (tkS Yn S)).1 == 2)=false:=by rw [← Lo];exact h3
 have hfl:∀ (k:Int) (s:ByteArray) (w:World),(Instr.field 70 (.agg #[.int .i64 k,.string s]) 0).run Tryz.prog w=.ok (.int .i64 k) w:=fun _ _ _=>by kernel_rfl
 clear h h1 hG hL hd IH h2 h3
 go_enter Tryz.func185,Tryz.ntmps185
 go_wp2_with fail
 refine HI.out.mono ?_
 rintro e w1 ⟨rfl,hb1⟩
 have K1:=Hd (K0.out.next (K0.out.rd.below hb1) (Z0.of_below hb1))
 have TA:=Hd (Id r d S Yn w1 K1.out.rd)
 clear hb1
 go_wp2_with fail
 refine TA.out.mono ?_
 rintro e w2 ⟨rfl,hh2,m2⟩
 have K2:=Hd (K1.out.next hh2 m2)
 have K3:=Hd (Q1.make K2.out #[.int .i64 2,.string ⟨#[]⟩,.string ⟨#[]⟩,.slice none 0 0,.slice none 0 0,.string ⟨#[]⟩,.slice none 0 0] 72)
 have SA:=Hd (O8 r d (tkS Yn S) onB _ K3.out.rd)
 rw [HON.out] at SA
 clear hh2 m2 TA HI
 go_wp2_with fail
 refine SA.out.mono ?_
 rintro e w4 ⟨rfl,hb4⟩
 have K4:=Hd (K3.out.next (K3.out.rd.below hb4) (Z0.of_below hb4))
 have PK:=Hd (Fw r d (tkS Yn S) w4 K4.out.rd)
 clear hb4 SA
 go_wp2_with fail
 refine PK.out.mono ?_
 rintro e w5 ⟨rfl,hb5⟩
 have K8:=Hd (K4.out.next (K4.out.rd.below hb5) (Z0.of_below hb5))
 have DI:=HDR _ K8.out.rd
 clear hb5 PK
 go_wp2_with fail
 clear e2 hfl
 refine DI.out.mono ?_
 rintro e w9 ⟨A4,n4,k4,rfl,⟨x,hx,hxe⟩,h9,m9⟩
 have K9:=Hd (K8.out.next h9 m9)
 have O9:=Hd (OvS.of (show TS _ (Zs _ w9) (.cons (.row x) .nil) [.slice A4 n4 k4] from TS.row hx (TS.nil _ _)) K8.out.blt)
 have HX:=Hd hxe
 obtain ⟨y0,y1,y2,y3,y4,y5,y6,yz⟩:=svc K9.out.loc
 have yf4:=yz 4
 have KA:Hid (Q1 nT w r (w9.setCell ⟨w2.heap.size,4,none⟩ (.slice A4 n4 k4)) _ w2.heap.size (.cells #[.int .i64 2,.string ⟨#[]⟩,.string ⟨#[]⟩,.slice none 0 0,.slice A4 n4 k4,.string ⟨#[]⟩,.slice none 0 0] 72 (0,0)) _ d):=Hd (K9.out.put 4 (.slice A4 n4 k4))
 have OA:=Hd (O9.out.put (Nat.le_refl _) (i:=4) (v:=.slice A4 n4 k4))
 have SI:=HSR _ KA.out.rd
 clear hx hxe h9 m9 yz DI K8 K9 HSR HDR
 go_wp2_with fail
 clear y0 y1 y2 y3 y4 y5 y6 yf4
 refine SI.out.mono ?_
 rintro e wb ⟨A6,n6,k6,rfl,⟨x6,hx6,hxe6⟩,hb9,mb⟩
 have KB:=Hd (KA.out.next hb9 mb)
 have OB:=Hd (OA.out.next mb KA.out.rb)
 have O6:=Hd (OvS.of (show TS _ (Zs _ wb) (.cons (.row x6) .nil) [.slice A6 n6 k6] from TS.row hx6 (TS.nil _ _)) KA.out.blt)
 have HX6:=Hd hxe6
 obtain ⟨y0,y1,y2,y3,y4,y5,y6,yz⟩:=svc KB.out.loc
 have yf6:=yz 6
 have KC:Hid (Q1 nT w r (wb.setCell ⟨w2.heap.size,6,none⟩ (.slice A6 n6 k6)) _ w2.heap.size (.cells #[.int .i64 2,.string ⟨#[]⟩,.string ⟨#[]⟩,.slice none 0 0,.slice A4 n4 k4,.string ⟨#[]⟩,.slice A6 n6 k6] 72 (0,0)) _ d):=Hd (KB.out.put 6 (.slice A6 n6 k6))
 have OC:=Hd (OB.out.put (Nat.le_refl _) (i:=6) (v:=.slice A6 n6 k6))
 have OD:=Hd (O6.out.put (Nat.le_refl _) (i:=6) (v:=.slice A6 n6 k6))
 obtain ⟨x0,x1,x2,x3,x4,x5,x7,xz⟩:=svc KC.out.loc
 obtain ⟨q0,q1,q2,q3,q4,q5,q6,qz⟩:=svc KC.out.res
 have qf0:=qz 0
 have qf1:=qz 1
 have qf2:=qz 2
 have qf3:=qz 3
 have qf4:=qz 4
 have qf5:=qz 5
 have qf6:=qz 6
 clear hx6 hxe6 hb9 mb yz xz qz SI KA KB OA OB O6 O9
 go_wp2_with fail
 have F:=KC.out.fin (ys:=seZ) [.int .i64 2,.string ⟨#[]⟩,.string ⟨#[]⟩,.slice none 0 0,.slice A4 n4 k4,.string ⟨#[]⟩,.slice A6 n6 k6] rfl
 have OF:=OC.out.fin (w:=w) (Nat.le_of_lt KC.out.bl) [.int .i64 2,.string ⟨#[]⟩,.string ⟨#[]⟩,.slice none 0 0,.slice A4 n4 k4,.string ⟨#[]⟩,.slice A6 n6 k6]
 have OG:=OD.out.fin (w:=w) (Nat.le_of_lt KC.out.bl) [.int .i64 2,.string ⟨#[]⟩,.string ⟨#[]⟩,.slice none 0 0,.slice A4 n4 k4,.string ⟨#[]⟩,.slice A6 n6 k6]
 refine Y8 (cs:=[.int .i64 2,.string ⟨#[]⟩,.string ⟨#[]⟩,.slice none 0 0,.slice A4 n4 k4,.string ⟨#[]⟩,.slice A6 n6 k6]) rfl rfl rfl F.1 Tryz.underlying72 ⟨_,rfl⟩ (by kernel_rfl) ?_
 refine ⟨_,_,_,_,_,_,_,_,_,_,_,_,_,rfl,⟨.cons (.one (.int .i64 2)) (.cons (.one (.string ⟨#[]⟩)) (.cons (.one (.string ⟨#[]⟩)) (.cons (.row .nil) (.cons (.row x) (.cons (.one (.string ⟨#[]⟩)) (.cons (.row x6) .nil)))))),TS.int (TS.str (Nat.zero_le _) (TS.str (Nat.zero_le _) (TS.row (TP.none _ _) (Ap OF (TS.str (Nat.zero_le _) OG))))),fun a ts e=>?_⟩,?_,F.2.2⟩
 · rw [HR.out] at e
   obtain ⟨v,e2,rfl⟩:=Jp e
   obtain ⟨us,e3,_⟩:=Xs e2
   obtain ⟨ds,e4,hz⟩:=J0 e3
   rw [HX.out ds us e4,HX6.out v ts e2,hz]
   simp only [Gk,Jf]
   rfl
 · rw [HR.out,Yc]
   exact F.2.1
theorem Ygg (N:Nat) (hN:N≤200000) (IH:Zj2 nT N) (d r:Nat) (S:StP) (w:World) (hG:∀ ts,S=.ok ts→Ze ts) (hL:∀ ts,S=.ok ts→ts.length≤N+1) (hd:d≤16) (h:RP nT w r d S) (h1:isS 1 Yn S=true) (h2:isS 2 onB (tkS Yn S)=true):Calls Tryz.prog 185 #[.pointer (some ⟨r,0,none⟩)] w (Zy4 nT d r S w):=by
 have K0:=Hd (Q0.start h #[.int .i64 0,.string ⟨#[]⟩,.string ⟨#[]⟩,.slice none 0 0,.slice none 0 0,.string ⟨#[]⟩,.slice none 0 0] 72)
 have HI:=Hd (ris r d S Yn _ K0.out.rd)
 rw [h1] at HI
 have HR:=Hd ((Ylz (d:=d) h1 h2).trans (Yc5 (X8 d) d (nmV (nmS (tkS Yn S))) (nmS (nmS (tkS Yn S)))))
 have HG1:Hid (∀ us,tkS Yn S=.ok us→Ze us):=Hd (C7 hG)
 have HL1:Hid (∀ us,tkS Yn S=.ok us→us.length≤N):=Hd (fun us e=>by
   obtain ⟨u2,e2,_,l2⟩:=F6 e
   have:=hL _ e2
   omega)
 have HG2:=Hd (Lx HG1.out)
 have NS:=Hd (Ib HG2.out)
 have HGD:=Hd (Lx HG2.out)
 have HLD:Hid (∀ us,(nmS (nmS (tkS Yn S)))=.ok us→us.length≤N):=Hd (fun us e=>by
   obtain ⟨u2,e2,_,l2⟩:=Un e
   obtain ⟨u3,e3,_,l3⟩:=Un e2
   have:=HL1.out _ e3
   omega)
 have HDR:=fun wy (hr:RP nT wy r d (nmS (nmS (tkS Yn S))))=>Hd (Zvb false d r (nmS (nmS (tkS Yn S))) wy HGD.out (fun us e=>Nat.le_trans (HLD.out us e) hN) hd hr)
 have HSR:=fun wy (hr:RP nT wy r d (Yk (Za (Zp false d) (nmS (nmS (tkS Yn S))))))=>Hd (IH d (Yk (Za (Zp false d) (nmS (nmS (tkS Yn S))))) r wy (fun us e=>by
   obtain ⟨a,e1,_⟩:=J0 e
   obtain ⟨vs,e2,hp⟩:=Xs e1
   exact Zr (Im false d vs a us hp) (HGD.out _ e2)) (fun us e=>by
   obtain ⟨a,e1,_⟩:=J0 e
   obtain ⟨vs,e2,hp⟩:=Xs e1
   have:=(Im false d vs a us hp).length_le
   have:=HLD.out _ e2
   omega) hd hr)
 have HON:=Hd h2
 clear h h1 hG hL hd IH h2
 go_enter Tryz.func185,Tryz.ntmps185
 go_wp2_with fail
 refine HI.out.mono ?_
 rintro e w1 ⟨rfl,hb1⟩
 have K1:=Hd (K0.out.next (K0.out.rd.below hb1) (Z0.of_below hb1))
 have TA:=Hd (Id r d S Yn w1 K1.out.rd)
 clear hb1
 go_wp2_with fail
 refine TA.out.mono ?_
 rintro e w2 ⟨rfl,hh2,m2⟩
 have K2:=Hd (K1.out.next hh2 m2)
 have K3:=Hd (Q1.make K2.out #[.int .i64 2,.string ⟨#[]⟩,.string ⟨#[]⟩,.slice none 0 0,.slice none 0 0,.string ⟨#[]⟩,.slice none 0 0] 72)
 have SA:=Hd (O8 r d (tkS Yn S) onB _ K3.out.rd)
 rw [HON.out] at SA
 clear hh2 m2 TA HI
 go_wp2_with fail
 refine SA.out.mono ?_
 rintro e w4 ⟨rfl,hb4⟩
 have K4:=Hd (K3.out.next (K3.out.rd.below hb4) (Z0.of_below hb4))
 have NA:=Hd (L2 r d (tkS Yn S) w4 K4.out.rd)
 clear hb4 SA
 go_wp2_with fail
 refine NA.out.mono ?_
 rintro e w5 ⟨rfl,h5,m5⟩
 have K5:=Hd (K4.out.next h5 m5)
 have NB:=Hd (L2 r d (nmS (tkS Yn S)) w5 K5.out.rd)
 clear h5 m5 NA
 go_wp2_with fail
 refine NB.out.mono ?_
 rintro e w6 ⟨rfl,h6,m6⟩
 have K6:=Hd (K5.out.next h6 m6)
 obtain ⟨y0,y1,y2,y3,y4,y5,y6,yz⟩:=svc K6.out.loc
 have yf5:=yz 5
 have K8:Hid (Q1 nT w r (w6.setCell ⟨w2.heap.size,5,none⟩ (.string (nmV (nmS (tkS Yn S))))) _ w2.heap.size (.cells #[.int .i64 2,.string ⟨#[]⟩,.string ⟨#[]⟩,.slice none 0 0,.slice none 0 0,.string (nmV (nmS (tkS Yn S))),.slice none 0 0] 72 (0,0)) (nmS (nmS (tkS Yn S))) d):=Hd (K6.out.put 5 (.string (nmV (nmS (tkS Yn S)))))
 have DI:=HDR _ K8.out.rd
 clear h6 m6 yz NB K5 K6
 go_wp2_with fail
 clear y0 y1 y2 y3 y4 y5 y6 yf5
 refine DI.out.mono ?_
 rintro e w9 ⟨A4,n4,k4,rfl,⟨x,hx,hxe⟩,h9,m9⟩
 have K9:=Hd (K8.out.next h9 m9)
 have O9:=Hd (OvS.of (show TS _ (Zs _ w9) (.cons (.row x) .nil) [.slice A4 n4 k4] from TS.row hx (TS.nil _ _)) K8.out.blt)
 have HX:=Hd hxe
 obtain ⟨y0,y1,y2,y3,y4,y5,y6,yz⟩:=svc K9.out.loc
 have yf4:=yz 4
 have KA:Hid (Q1 nT w r (w9.setCell ⟨w2.heap.size,4,none⟩ (.slice A4 n4 k4)) _ w2.heap.size (.cells #[.int .i64 2,.string ⟨#[]⟩,.string ⟨#[]⟩,.slice none 0 0,.slice A4 n4 k4,.string (nmV (nmS (tkS Yn S))),.slice none 0 0] 72 (0,0)) _ d):=Hd (K9.out.put 4 (.slice A4 n4 k4))
 have OA:=Hd (O9.out.put (Nat.le_refl _) (i:=4) (v:=.slice A4 n4 k4))
 have SI:=HSR _ KA.out.rd
 clear hx hxe h9 m9 yz DI K8 K9 HSR HDR
 go_wp2_with fail
 clear y0 y1 y2 y3 y4 y5 y6 yf4
 refine SI.out.mono ?_
 rintro e wb ⟨A6,n6,k6,rfl,⟨x6,hx6,hxe6⟩,hb9,mb⟩
 have KB:=Hd (KA.out.next hb9 mb)
 have OB:=Hd (OA.out.next mb KA.out.rb)
 have O6:=Hd (OvS.of (show TS _ (Zs _ wb) (.cons (.row x6) .nil) [.slice A6 n6 k6] from TS.row hx6 (TS.nil _ _)) KA.out.blt)
 have HX6:=Hd hxe6
 obtain ⟨y0,y1,y2,y3,y4,y5,y6,yz⟩:=svc KB.out.loc
 have yf6:=yz 6
 have KC:Hid (Q1 nT w r (wb.setCell ⟨w2.heap.size,6,none⟩ (.slice A6 n6 k6)) _ w2.heap.size (.cells #[.int .i64 2,.string ⟨#[]⟩,.string ⟨#[]⟩,.slice none 0 0,.slice A4 n4 k4,.string (nmV (nmS (tkS Yn S))),.slice A6 n6 k6] 72 (0,0)) _ d):=Hd (KB.out.put 6 (.slice A6 n6 k6))
 have OC:=Hd (OB.out.put (Nat.le_refl _) (i:=6) (v:=.slice A6 n6 k6))
 have OD:=Hd (O6.out.put (Nat.le_refl _) (i:=6) (v:=.slice A6 n6 k6))
 obtain ⟨x0,x1,x2,x3,x4,x5,x7,xz⟩:=svc KC.out.loc
 obtain ⟨q0,q1,q2,q3,q4,q5,q6,qz⟩:=svc KC.out.res
 have qf0:=qz 0
 have qf1:=qz 1
 have qf2:=qz 2
 have qf3:=qz 3
 have qf4:=qz 4
 have qf5:=qz 5
 have qf6:=qz 6
 clear hx6 hxe6 hb9 mb yz xz qz SI KA KB OA OB O6 O9
 go_wp2_with fail
 have F:=KC.out.fin (ys:=seZ) [.int .i64 2,.string ⟨#[]⟩,.string ⟨#[]⟩,.slice none 0 0,.slice A4 n4 k4,.string (nmV (nmS (tkS Yn S))),.slice A6 n6 k6] rfl
 have OF:=OC.out.fin (w:=w) (Nat.le_of_lt KC.out.bl) [.int .i64 2,.string ⟨#[]⟩,.string ⟨#[]⟩,.slice none 0 0,.slice A4 n4 k4,.string (nmV (nmS (tkS Yn S))),.slice A6 n6 k6]
 have OG:=OD.out.fin (w:=w) (Nat.le_of_lt KC.out.bl) [.int .i64 2,.string ⟨#[]⟩,.string ⟨#[]⟩,.slice none 0 0,.slice A4 n4 k4,.string (nmV (nmS (tkS Yn S))),.slice A6 n6 k6]
 refine Y8 (cs:=[.int .i64 2,.string ⟨#[]⟩,.string ⟨#[]⟩,.slice none 0 0,.slice A4 n4 k4,.string (nmV (nmS (tkS Yn S))),.slice A6 n6 k6]) rfl rfl rfl F.1 Tryz.underlying72 ⟨_,rfl⟩ (by kernel_rfl) ?_
 refine ⟨_,_,_,_,_,_,_,_,_,_,_,_,_,rfl,⟨.cons (.one (.int .i64 2)) (.cons (.one (.string ⟨#[]⟩)) (.cons (.one (.string ⟨#[]⟩)) (.cons (.row .nil) (.cons (.row x) (.cons (.one (.string (nmV (nmS (tkS Yn S))))) (.cons (.row x6) .nil)))))),TS.int (TS.str (Nat.zero_le _) (TS.str (Nat.zero_le _) (TS.row (TP.none _ _) (Ap OF (TS.str NS.out OG))))),fun a ts e=>?_⟩,?_,F.2.2⟩
 · rw [HR.out] at e
   obtain ⟨v,e2,rfl⟩:=Jp e
   obtain ⟨us,e3,_⟩:=Xs e2
   obtain ⟨ds,e4,hz⟩:=J0 e3
   rw [HX.out ds us e4,HX6.out v ts e2,hz]
   simp only [Gk,Jf]
   rfl
 · rw [HR.out,Yc]
   exact F.2.1
variable {nT:Nat}
theorem Zvr (N:Nat) (hN:N≤200000) (d r:Nat) (S:StP) (w:World) (hG:∀ ts,S=.ok ts→Ze ts) (hL:∀ ts,S=.ok ts→ts.length≤N+1) (hd:d≤16) (h:RP nT w r d S) (h1:isS 1 Yn S=true) (h2:isS 2 onB (tkS Yn S)=false) (h3:F2 (tkS Yn S)=true):Calls Tryz.prog 185 #[.pointer (some ⟨r,0,none⟩)] w (Zy4 nT d r S w):=Yan d r S w hG (fun ts e=>by have:=hL ts e;omega) hd h h1 h2 h3
theorem Ymt {k:Int} {s:ByteArray} {S:StP} (h:isS k s S=true):∃ us,S=.ok us:=by
 rcases S with y|us
 · cases h
 · exact ⟨us,rfl⟩
theorem Ylx (N:Nat) (hN:N≤200000) (d r:Nat) (S:StP) (IH:(∃ us,nmS S=.ok us)→Zj2 nT N) (w:World) (hG:∀ ts,S=.ok ts→Ze ts) (hL:∀ ts,S=.ok ts→ts.length≤N+1) (hd:d≤16) (h:RP nT w r d S) (h1:isS 1 Yn S=false):Calls Tryz.prog 185 #[.pointer (some ⟨r,0,none⟩)] w (Zy4 nT d r S w):=by
 have K0:=Hd (Q0.start h #[.int .i64 0,.string ⟨#[]⟩,.string ⟨#[]⟩,.slice none 0 0,.slice none 0 0,.string ⟨#[]⟩,.slice none 0 0] 72)
 have HI:=Hd (ris r d S Yn _ K0.out.rd)
 rw [h1] at HI
 have HD:=Hd hd
 have HIH:=Hd IH
 have HB:=Hd (And.intro hG (And.intro hL h1))
 clear h h1 hG hL hd IH
 go_enter Tryz.func185,Tryz.ntmps185
 go_wp2_with fail
 refine HI.out.mono ?_
 rintro e w1 ⟨rfl,hb1⟩
 have K1:=Hd (K0.out.next (K0.out.rd.below hb1) (Z0.of_below hb1))
 have TA:=Hd (L2 r d S w1 K1.out.rd)
 clear hb1
 go_wp2_with fail
 refine TA.out.mono ?_
 rintro e w2 ⟨rfl,hh2,m2⟩
 have K2:=Hd (K1.out.next hh2 m2)
 have K3:=Hd (Q1.make K2.out #[.int .i64 0,.string ⟨#[]⟩,.string (nmV S),.slice none 0 0,.slice none 0 0,.string ⟨#[]⟩,.slice none 0 0] 72)
 have SA:=Hd (ris r d (nmS S) Jq _ K3.out.rd)
 clear hh2 m2 TA HI
 go_wp2_with fail
 refine SA.out.mono ?_
 rintro e w4 ⟨rfl,hb4⟩
 have K4:=Hd (K3.out.next (K3.out.rd.below hb4) (Z0.of_below hb4))
 clear hb4 SA K0 K1 K2 K3
 refine Or.elim (Bool.eq_false_or_eq_true (isS 1 Jq (nmS S))) (fun h2=>?_) (fun h2=>?_)
 focus
  rw [h2]
  have TC:=Hd (Id r d (nmS S) Jq w4 K4.out.rd)
  go_wp2_with fail
  refine TC.out.mono ?_
  rintro e w5 ⟨rfl,h5,m5⟩
  have K5:=Hd (K4.out.next h5 m5)
  obtain ⟨y0,y1,y2,y3,y4,y5,y6,yz⟩:=svc K5.out.loc
  have yf1:=yz 1
  have K6:Hid (Q1 nT w r (w5.setCell ⟨w2.heap.size,1,none⟩ (.string (nmV S))) _ w2.heap.size (.cells #[.int .i64 0,.string (nmV S),.string (nmV S),.slice none 0 0,.slice none 0 0,.string ⟨#[]⟩,.slice none 0 0] 72 (0,0)) (tkS Jq (nmS S)) d):=Hd (K5.out.put 1 (.string (nmV S)))
  have NB:=Hd (L2 r d (tkS Jq (nmS S)) _ K6.out.rd)
  clear h5 m5 yz TC K4 K5
  go_wp2_with fail
  clear y0 y1 y2 y3 y4 y5 y6 yf1
  refine NB.out.mono ?_
  rintro e w6 ⟨rfl,h6,m6⟩
  have K7:=Hd (K6.out.next h6 m6)
  obtain ⟨y0,y1,y2,y3,y4,y5,y6,yz⟩:=svc K7.out.loc
  have yf2:=yz 2
  have K8:Hid (Q1 nT w r (w6.setCell ⟨w2.heap.size,2,none⟩ (.string (nmV (tkS Jq (nmS S))))) _ w2.heap.size (.cells #[.int .i64 0,.string (nmV S),.string (nmV (tkS Jq (nmS S))),.slice none 0 0,.slice none 0 0,.string ⟨#[]⟩,.slice none 0 0] 72 (0,0)) (nmS (tkS Jq (nmS S))) d):=Hd (K7.out.put 2 (.string (nmV (tkS Jq (nmS S)))))
  have HE:=Hd (Yb9 (d:=d) HB.out.2.2 h2)
  have HN2:=Hd (C7 (s:=Jq) (Lx HB.out.1))
  have HZ:=Hd (And.intro (Ib HB.out.1) (Ib HN2.out))
  have HGD:=Hd (Lx HN2.out)
  have HLD:Hid (∀ us,nmS (tkS Jq (nmS S))=.ok us→us.length≤N∧∃ us,nmS S=.ok us):=Hd (fun us e=>by
   obtain ⟨u2,e2,_,l2⟩:=Un e
   obtain ⟨u3,e3,_,l3⟩:=F6 e2
   obtain ⟨u4,e4,_,l4⟩:=Un e3
   have:=HB.out.2.1 _ e4
   exact ⟨by omega,_,e3⟩)
  have AI:=Hd (Yiq false d r _ _ HGD.out (fun us e=>Nat.le_trans (HLD.out us e).1 hN) HD.out K8.out.rd)
  obtain ⟨AL,hAL⟩:∃ n,nmV S=n:=⟨_,rfl⟩
  obtain ⟨NM,hNM⟩:∃ n,nmV (tkS Jq (nmS S))=n:=⟨_,rfl⟩
  obtain ⟨SD,hSD⟩:∃ X,nmS (tkS Jq (nmS S))=X:=⟨_,rfl⟩
  rw [hAL,hNM,hSD] at K8 HE
  rw [hAL,hNM] at HZ
  rw [hSD] at HGD HLD
  rw [hNM,hSD] at AI
  clear h6 m6 yz NB K6 K7 h2 HN2
  go_wp2_with fail
  clear y0 y1 y2 y3 y4 y5 y6 yf2 hSD
  generalize w6.setCell ⟨w2.heap.size,2,none⟩ (.string NM)=w8 at K8 AI ⊢
 rotate_left
 focus
  rw [h2]
  have HE:=Hd (Yap (d:=d) HB.out.2.2 h2)
  have HZ:=Hd (And.intro (show (⟨#[]⟩:ByteArray).size≤9000 from Nat.zero_le _) (Ib HB.out.1))
  have HGD:=Hd (Lx HB.out.1)
  have HLD:Hid (∀ us,nmS S=.ok us→us.length≤N∧∃ us,nmS S=.ok us):=Hd (fun us e=>by
   obtain ⟨u4,e4,_,l4⟩:=Un e
   have:=HB.out.2.1 _ e4
   exact ⟨by omega,_,e⟩)
  have AI:=Hd (Yiq false d r _ _ HGD.out (fun us e=>Nat.le_trans (HLD.out us e).1 hN) HD.out K4.out.rd)
  clear h2
  go_wp2_with fail
  obtain ⟨AL,hAL⟩:∃ n:ByteArray,⟨#[]⟩=n:=⟨_,rfl⟩
  obtain ⟨NM,hNM⟩:∃ n,nmV S=n:=⟨_,rfl⟩
  obtain ⟨SD,hSD⟩:∃ X,nmS S=X:=⟨_,rfl⟩
  have K8:Hid (Q1 nT w r w4 (.cells #[.int .i64 0,.string ⟨#[]⟩,.string ⟨#[]⟩,.slice none 0 0,.slice none 0 0,.string ⟨#[]⟩,.slice none 0 0] 72 (0,0)) w2.heap.size (.cells #[.int .i64 0,.string AL,.string NM,.slice none 0 0,.slice none 0 0,.string ⟨#[]⟩,.slice none 0 0] 72 (0,0)) SD d):=by rw [← hAL,← hNM,← hSD];exact K4
  rw [show (eB:ByteArray)=AL from hAL,hNM,hSD] at HE
  rw [hAL,hNM] at HZ
  rw [hSD] at HGD AI
  have HLD:Hid (∀ us,SD=.ok us→us.length≤N∧∃ us,nmS S=.ok us):=by rw [← hSD];exact HLD
  clear K4 hSD
  generalize w4=w8 at K8 AI ⊢
 all_goals
  clear hAL hNM
  have HGA:Hid (∀ us,(Yk (Za (Ym false d) SD))=.ok us→Ze us∧us.length≤N):=Hd (fun us e=>by
   obtain ⟨a,e1,_⟩:=J0 e
   obtain ⟨vs,e2,hp⟩:=Xs e1
   have hs:=Zjy false d vs a us hp
   exact ⟨Zr hs (HGD.out _ e2),Nat.le_trans hs.length_le (HLD.out _ e2).1⟩)
  have HDR:=fun wy (hr:RP nT wy r d (Yk (Za (Ym false d) SD)))=>Hd (Zvb false d r (Yk (Za (Ym false d) SD)) wy (fun us e=>(HGA.out us e).1) (fun us e=>Nat.le_trans (HGA.out us e).2 hN) HD.out hr)
  refine AI.out.mono ?_
  rintro e w9 ⟨A3,n3,k3,rfl,⟨x3,hx3,hxe3⟩,h8,m8⟩
  have K9:=Hd (K8.out.next h8 m8)
  have O3:=Hd (OvS.of (show TS _ (Zs _ w9) (.cons (.row x3) .nil) [.slice A3 n3 k3] from TS.row hx3 (TS.nil _ _)) K8.out.blt)
  have HX3:=Hd hxe3
  obtain ⟨y0,y1,y2,y3,y4,y5,y6,yz⟩:=svc K9.out.loc
  have yf3:=yz 3
  have KA:Hid (Q1 nT w r (w9.setCell ⟨w2.heap.size,3,none⟩ (.slice A3 n3 k3)) _ w2.heap.size (.cells #[.int .i64 0,.string AL,.string NM,.slice A3 n3 k3,.slice none 0 0,.string ⟨#[]⟩,.slice none 0 0] 72 (0,0)) (Yk (Za (Ym false d) SD)) d):=Hd (K9.out.put 3 (.slice A3 n3 k3))
  have OA:=Hd (O3.out.put (Nat.le_refl _) (i:=3) (v:=.slice A3 n3 k3))
  have DI:=HDR _ KA.out.rd
  clear hx3 hxe3 h8 m8 yz AI K8 K9 O3 HDR
  go_wp2_with fail
  clear y0 y1 y2 y3 y4 y5 y6 yf3
  refine DI.out.mono ?_
  rintro e wa ⟨A4,n4,k4,rfl,⟨x,hx,hxe⟩,h9,m9⟩
  have KB:=Hd (KA.out.next h9 m9)
  have OB:=Hd (OA.out.next m9 KA.out.rb)
  have O4:=Hd (OvS.of (show TS _ (Zs _ wa) (.cons (.row x) .nil) [.slice A4 n4 k4] from TS.row hx (TS.nil _ _)) KA.out.blt)
  have HX:=Hd hxe
  obtain ⟨y0,y1,y2,y3,y4,y5,y6,yz⟩:=svc KB.out.loc
  have yf4:=yz 4
  have KD:Hid (Q1 nT w r (wa.setCell ⟨w2.heap.size,4,none⟩ (.slice A4 n4 k4)) _ w2.heap.size (.cells #[.int .i64 0,.string AL,.string NM,.slice A3 n3 k3,.slice A4 n4 k4,.string ⟨#[]⟩,.slice none 0 0] 72 (0,0)) (Yk (Za (Zp false d) (Yk (Za (Ym false d) SD)))) d):=Hd (KB.out.put 4 (.slice A4 n4 k4))
  have OD3:=Hd (OB.out.put (Nat.le_refl _) (i:=4) (v:=.slice A4 n4 k4))
  have OD4:=Hd (O4.out.put (Nat.le_refl _) (i:=4) (v:=.slice A4 n4 k4))
  have BI:=Hd (ris r d (Yk (Za (Zp false d) (Yk (Za (Ym false d) SD)))) omB _ KD.out.rd)
  clear hx hxe h9 m9 yz DI KA KB OA OB O4
  go_wp2_with fail
  clear y0 y1 y2 y3 y4 y5 y6 yf4
  refine BI.out.mono ?_
  rintro e wd ⟨rfl,hbd⟩
  have KX:=Hd (KD.out.next (KD.out.rd.below hbd) (Z0.of_below hbd))
  have OX:=Hd (OD3.out.next (Z0.of_below (r:=r) hbd) KD.out.rb)
  have OX4:=Hd (OD4.out.next (Z0.of_below (r:=r) hbd) KD.out.rb)
  clear hbd BI KD OD3 OD4
  refine Or.elim (Bool.eq_false_or_eq_true (isS 1 omB (Yk (Za (Zp false d) (Yk (Za (Ym false d) SD)))))) (fun h3=>?_) (fun h3=>?_)
  focus
   rw [h3]
   have HR:=Hd (HE.out.trans (Ye0 (X8 d) d AL NM SD h3))
   have HIN:Zj2 nT N:=by
    obtain ⟨us,e⟩:=Ymt h3
    obtain ⟨a,e1,_⟩:=J0 e
    obtain ⟨vs,e2,_⟩:=Xs e1
    obtain ⟨a2,e3,_⟩:=J0 e2
    obtain ⟨vs2,e4,_⟩:=Xs e3
    exact HIH.out (HLD.out _ e4).2
   have SI:=Hd (HIN d (Yk (Za (Zp false d) (Yk (Za (Ym false d) SD)))) r wd (fun us e=>by
    obtain ⟨a,e1,_⟩:=J0 e
    obtain ⟨vs,e2,hp⟩:=Xs e1
    exact Zr (Im false d vs a us hp) (HGA.out _ e2).1) (fun us e=>by
    obtain ⟨a,e1,_⟩:=J0 e
    obtain ⟨vs,e2,hp⟩:=Xs e1
    exact Nat.le_trans (Im false d vs a us hp).length_le (HGA.out _ e2).2) HD.out KX.out.rd)
   clear h3 HIN HIH HE
   go_wp2_with fail
   refine SI.out.mono ?_
   rintro e we ⟨A6,n6,k6,rfl,⟨x6,hx6,hxe6⟩,he9,me⟩
   have KE:=Hd (KX.out.next he9 me)
   have OE:=Hd (OX.out.next me KX.out.rb)
   have OE4:=Hd (OX4.out.next me KX.out.rb)
   have O6:=Hd (OvS.of (show TS _ (Zs _ we) (.cons (.row x6) .nil) [.slice A6 n6 k6] from TS.row hx6 (TS.nil _ _)) KX.out.blt)
   have HX6:=Hd hxe6
   obtain ⟨y0,y1,y2,y3,y4,y5,y6,yz⟩:=svc KE.out.loc
   have yf6:=yz 6
   have KC:Hid (Q1 nT w r (we.setCell ⟨w2.heap.size,6,none⟩ (.slice A6 n6 k6)) (.cells #[.int .i64 0,.string ⟨#[]⟩,.string ⟨#[]⟩,.slice none 0 0,.slice none 0 0,.string ⟨#[]⟩,.slice none 0 0] 72 (0,0)) w2.heap.size (.cells #[.int .i64 0,.string AL,.string NM,.slice A3 n3 k3,.slice A4 n4 k4,.string ⟨#[]⟩,.slice A6 n6 k6] 72 (0,0)) (Yk (Za (Wr d) S)) d):=by rw [HR.out,Yc];exact Hd (KE.out.put 6 (.slice A6 n6 k6))
   have OC:=Hd (OE.out.put (Nat.le_refl _) (i:=6) (v:=.slice A6 n6 k6))
   have OC4:=Hd (OE4.out.put (Nat.le_refl _) (i:=6) (v:=.slice A6 n6 k6))
   have OD:=Hd (O6.out.put (Nat.le_refl _) (i:=6) (v:=.slice A6 n6 k6))
   have HV:Hid (∀ a ts,Za (Wr d) S=.ok (a,ts)→(.cons (.one (.int .i64 0)) (.cons (.one (.string AL)) (.cons (.one (.string NM)) (.cons (.row x3) (.cons (.row x) (.cons (.one (.string ⟨#[]⟩)) (.cons (.row x6) .nil)))))))=Gk a):=Hd (fun a ts e=>by
    rw [HR.out] at e
    obtain ⟨v,e2,rfl⟩:=Jp e
    obtain ⟨us,e3,_⟩:=Xs e2
    obtain ⟨ds,e4,hz⟩:=J0 e3
    obtain ⟨us2,e5,_⟩:=Xs e4
    obtain ⟨g,e6,hy⟩:=J0 e5
    rw [HX.out ds us e4,HX3.out g us2 e6,HX6.out v ts e2,hz,hy]
    simp only [Gk]
    rfl)
   clear hx6 hxe6 he9 me SI KX KE OX OX4 OE OE4 O6 yz HX HX3 HX6 HR
   obtain ⟨q0,q1,q2,q3,q4,q5,q6,qz⟩:=svc KC.out.res
   obtain ⟨x0,x1,x2,x7,x4,x5,x8,xz⟩:=svc KC.out.loc
   have qf0:=qz 0
   have qf1:=qz 1
   have qf2:=qz 2
   have qf3:=qz 3
   have qf4:=qz 4
   have qf5:=qz 5
   have qf6:=qz 6
   clear qz xz
   go_wp2_with fail
   clear q0 q1 q2 q3 q4 q5 q6 qf0 qf1 qf2 qf3 qf4 qf5 qf6 x0 x1 x2 x7 x4 x5 x8 y0 y1 y2 y3 y4 y5 y6 yf6
   generalize we.setCell ⟨w2.heap.size,6,none⟩ (.slice A6 n6 k6)=wf at KC OC OC4 OD ⊢
  rotate_left
  focus
   rw [h3]
   have HR:=Hd (HE.out.trans (Yir (X8 d) d AL NM SD h3))
   have KC:Hid (Q1 nT w r wd (.cells #[.int .i64 0,.string ⟨#[]⟩,.string ⟨#[]⟩,.slice none 0 0,.slice none 0 0,.string ⟨#[]⟩,.slice none 0 0] 72 (0,0)) w2.heap.size (.cells #[.int .i64 0,.string AL,.string NM,.slice A3 n3 k3,.slice A4 n4 k4,.string ⟨#[]⟩,.slice none 0 0] 72 (0,0)) (Yk (Za (Wr d) S)) d):=by rw [HR.out,Yc];exact KX
   obtain ⟨q0,q1,q2,q3,q4,q5,q6,qz⟩:=svc KC.out.res
   obtain ⟨y0,y1,y2,y3,y4,y5,y6,yz⟩:=svc KC.out.loc
   have qf0:=qz 0
   have qf1:=qz 1
   have qf2:=qz 2
   have qf3:=qz 3
   have qf4:=qz 4
   have qf5:=qz 5
   have qf6:=qz 6
   clear qz yz h3 HIH HE
   go_wp2_with fail
   clear q0 q1 q2 q3 q4 q5 q6 qf0 qf1 qf2 qf3 qf4 qf5 qf6 y0 y1 y2 y3 y4 y5 y6
   obtain ⟨A6,hA6⟩:∃ A:Option Addr,A=none:=⟨_,rfl⟩
   obtain ⟨n6,hn6⟩:∃ n:Nat,n=0:=⟨_,rfl⟩
   obtain ⟨k6,hk6⟩:∃ n:Nat,n=0:=⟨_,rfl⟩
   obtain ⟨x6,hx6⟩:∃ x:TrL,x=.nil:=⟨_,rfl⟩
   have OC:=OX
   have OC4:=OX4
   have OD:Hid (OvS w2.heap.size wd (.cons (.row x6) .nil) [.slice A6 n6 k6]):=Hd (by rw [hA6,hn6,hk6,hx6];exact TS.row (TP.none _ _) (TS.nil _ _))
   have HV:Hid (∀ a ts,Za (Wr d) S=.ok (a,ts)→(.cons (.one (.int .i64 0)) (.cons (.one (.string AL)) (.cons (.one (.string NM)) (.cons (.row x3) (.cons (.row x) (.cons (.one (.string ⟨#[]⟩)) (.cons (.row x6) .nil)))))))=Gk a):=Hd (fun a ts e=>by
    rw [HR.out] at e
    obtain ⟨v,e2,rfl⟩:=Jp e
    obtain ⟨us2,e5,_⟩:=Xs e2
    obtain ⟨g,e6,hy⟩:=J0 e5
    rw [HX.out v ts e2,HX3.out g us2 e6,hy,hx6]
    simp only [Gk,Z7]
    rfl)
   have KC:Hid (Q1 nT w r wd (.cells #[.int .i64 0,.string ⟨#[]⟩,.string ⟨#[]⟩,.slice none 0 0,.slice none 0 0,.string ⟨#[]⟩,.slice none 0 0] 72 (0,0)) w2.heap.size (.cells #[.int .i64 0,.string AL,.string NM,.slice A3 n3 k3,.slice A4 n4 k4,.string ⟨#[]⟩,.slice A6 n6 k6] 72 (0,0)) (Yk (Za (Wr d) S)) d):=by rw [hA6,hn6,hk6];exact KC
   rw [show (Value.slice none 0 0)=.slice A6 n6 k6 by rw [hA6,hn6,hk6]]
   clear hA6 hn6 hk6 hx6 HR KX OX OX4 HX HX3
   generalize wd=wf at KC OC OC4 OD ⊢
  all_goals
   have F:=KC.out.fin (ys:=seZ) [.int .i64 0,.string AL,.string NM,.slice A3 n3 k3,.slice A4 n4 k4,.string ⟨#[]⟩,.slice A6 n6 k6] rfl
   have OF:=OC.out.fin (w:=w) (Nat.le_of_lt KC.out.bl) [.int .i64 0,.string AL,.string NM,.slice A3 n3 k3,.slice A4 n4 k4,.string ⟨#[]⟩,.slice A6 n6 k6]
   have OF4:=OC4.out.fin (w:=w) (Nat.le_of_lt KC.out.bl) [.int .i64 0,.string AL,.string NM,.slice A3 n3 k3,.slice A4 n4 k4,.string ⟨#[]⟩,.slice A6 n6 k6]
   have OG:=OD.out.fin (w:=w) (Nat.le_of_lt KC.out.bl) [.int .i64 0,.string AL,.string NM,.slice A3 n3 k3,.slice A4 n4 k4,.string ⟨#[]⟩,.slice A6 n6 k6]
   refine Y8 (cs:=[.int .i64 0,.string AL,.string NM,.slice A3 n3 k3,.slice A4 n4 k4,.string ⟨#[]⟩,.slice A6 n6 k6]) rfl rfl rfl F.1 Tryz.underlying72 ⟨_,rfl⟩ (by kernel_rfl) ?_
   exact ⟨_,_,_,_,_,_,_,_,_,_,_,_,_,rfl,⟨_,TS.int (TS.str HZ.out.1 (TS.str HZ.out.2 (Ap OF (Ap OF4 (TS.str (Nat.zero_le _) OG))))),HV.out⟩,F.2.1,F.2.2⟩
theorem Ygv (N:Nat) (hN:N≤200000) (IH:Zj2 nT N):Ynf nT (N+1):=by
 intro d S r w hG hL hd h
 cases h1:isS 1 Yn S with
 | true =>
   cases h2:isS 2 onB (tkS Yn S) with
   | true=>exact Ygg N hN IH d r S w hG hL hd h h1 h2
   | false =>
     cases h3:F2 (tkS Yn S) with
     | true=>exact Zvr N hN d r S w hG hL hd h h1 h2 h3
     | false=>exact Yk0 N hN IH d r S w hG hL hd h h1 h2 h3
 | false=>exact Ylx N hN d r S (fun _=>IH) w hG hL hd h h1
theorem Zjj:Ynf nT 0:=by
 intro d S r w hG hL hd h
 have hn:∃ y,nmS S=.error y:=by
  rcases S with y|ts
  · exact ⟨y,rfl⟩
  · have:=hL ts rfl
    have:ts=[]:=List.eq_nil_of_length_eq_zero (by omega)
    subst this
    exact ⟨2,rfl⟩
 have h1:isS 1 Yn S=false:=by
  rcases S with y|ts
  · rfl
  · have:=hL ts rfl
    have:ts=[]:=List.eq_nil_of_length_eq_zero (by omega)
    subst this
    rfl
 obtain ⟨y,hy⟩:=hn
 exact Ylx 0 (Nat.zero_le _) d r S (fun hx=>by obtain ⟨us,e⟩:=hx;rw [hy] at e;cases e) w hG (fun ts e=>Nat.le_succ_of_le (hL ts e)) hd h h1
theorem C0:∀ N,N≤200000→Ynf nT N∧Zj2 nT N:=by
 intro N
 induction N with
 | zero=>exact fun _=>⟨Zjj,fun d S r w hG hL hd h=>Ng 0 (Nat.zero_le _) Zjj d S r w hG (fun ts e=>Nat.le_succ_of_le (hL ts e)) hd h⟩
 | succ k ih=>exact fun hk=>⟨Ygv k (by omega) (ih (by omega)).2,Ng k (by omega) (ih (by omega)).1⟩
variable {nT:Nat}
structure Ik (B r q:Nat) (w w':World):Prop where
 os:w'.os=w.os
 tape:w'.tape=w.tape
 output:w'.output=w.output
 size:w.heap.size≤w'.heap.size
 block:∀ k,k < B→k ≠ r→k ≠ q→w'.heap[k]? = w.heap[k]?
theorem Ik.of {B r q:Nat} {w w':World} (m:Z0 r w w') (hB:B≤w.heap.size):Ik B r q w w':=⟨m.os,m.tape,m.output,m.size,fun k hk hr _=>m.block k (Nat.lt_of_lt_of_le hk hB) (fun e=>hr (by injection e))⟩
theorem Ik.trans {B r q:Nat} {w w1 w2:World} (h:Ik B r q w w1) (h':Ik B r q w1 w2):Ik B r q w w2:=
 ⟨h'.os.trans h.os,h'.tape.trans h.tape,h'.output.trans h.output,Nat.le_trans h.size h'.size,fun k hk hr hq=>(h'.block k hk hr hq).trans (h.block k hk hr hq)⟩
theorem Ik.put {B r q i:Nat} {w w1:World} {v:Value} (h:Ik B r q w w1):Ik B r q w (w1.setCell ⟨q,i,none⟩ v):=
 ⟨h.os,h.tape,h.output,by have:=h.size;simpa [World.setCell] using this,fun k hk hr hq=>(Below.heap_setCell _ _ _ _ hq).trans (h.block k hk hr hq)⟩
theorem Ik.grown {B r q:Nat} {w w3 w4:World} {o:Obj} {k:Option Nat} (h:Ik B r q w w3) (hB:B≤w3.heap.size) (hg:(w3.alloc o).grownBy w4 k) (hk:∀ b,k=some b→B≤b):Ik B r q w w4:=by
 have ha:(w3.alloc o).heap.size=w3.heap.size+1:=by simp
 have hs:=hg.size
 have h0:=h.size
 exact ⟨hg.os.trans h.os,hg.tape.trans h.tape,hg.output.trans h.output,by omega,fun j hj hr hq=>((hg.block j (by omega) (fun e=>by have:=hk j e.symm;omega)).trans (Below.heap_alloc _ _ _ (by omega))).trans (h.block j hj hr hq)⟩
structure RDK (r q B:Nat) (W:World) (V1 V2:Value) (l1 l2:TrL) (xs1 xs2:List Value) (P1 X1 P2 X2:Nat→Prop):Prop where
 loc:W.heap[q]? = some (Ybn V1 V2)
 r1:RX 68 5 B W V1 l1 xs1 P1 X1
 r2:RX 87 4 B W V2 l2 xs2 P2 X2
 dis:∀ b,X1 b→X2 b→False
 b1:∀ b,X1 b→B≤b∧b < W.heap.size
 b2:∀ b,X2 b→B≤b∧b < W.heap.size
 rB:r < B
 qB:q < B
 rq:r < q
 lt:B≤W.heap.size
theorem RDK.next {r q B:Nat} {W W':World} {V1 V2:Value} {l1 l2:TrL} {xs1 xs2:List Value} {P1 X1 P2 X2:Nat→Prop} (h:RDK r q B W V1 V2 l1 l2 xs1 xs2 P1 X1 P2 X2) (m:Z0 r W W'):RDK r q B W' V1 V2 l1 l2 xs1 xs2 P1 X1 P2 X2:=
 ⟨m.keep h.loc (Nat.ne_of_gt h.rq),h.r1.next m h.rB,h.r2.next m h.rB,h.dis,fun b hb=>⟨(h.b1 b hb).1,Nat.lt_of_lt_of_le (h.b1 b hb).2 m.size⟩,fun b hb=>⟨(h.b2 b hb).1,Nat.lt_of_lt_of_le (h.b2 b hb).2 m.size⟩,h.rB,h.qB,h.rq,Nat.le_trans h.lt m.size⟩
theorem RDK.own1 {r q B:Nat} {W:World} {V1 V2:Value} {l1 l2:TrL} {xs1 xs2:List Value} {P1 X1 P2 X2:Nat→Prop} (h:RDK r q B W V1 V2 l1 l2 xs1 xs2 P1 X1 P2 X2):∀ b,V1.ownBlock=some b→B≤b:=fun b hb=>(h.b1 b (h.r1.inX b (.inr hb))).1
theorem RDK.own2 {r q B:Nat} {W:World} {V1 V2:Value} {l1 l2:TrL} {xs1 xs2:List Value} {P1 X1 P2 X2:Nat→Prop} (h:RDK r q B W V1 V2 l1 l2 xs1 xs2 P1 X1 P2 X2):∀ b,V2.ownBlock=some b→B≤b:=fun b hb=>(h.b2 b (h.r2.inX b (.inr hb))).1
theorem RDK.grown {r q B:Nat} {w3 w4:World} {V1 V2:Value} {l1 l2:TrL} {xs1 xs2:List Value} {P1 X1 P2 X2:Nat→Prop} {o:Obj} {k:Option Nat} (h:RDK r q B w3 V1 V2 l1 l2 xs1 xs2 P1 X1 P2 X2) (hg:(w3.alloc o).grownBy w4 k) (hk:∀ b,k=some b→B≤b) :
  w4.heap[q]? = some (Ybn V1 V2)∧B≤w4.heap.size:=by
 have hlt:=h.lt
 have hq:=h.qB
 have ha:(w3.alloc o).heap.size=w3.heap.size+1:=by simp
 have hs:=hg.size
 refine ⟨?_,by omega⟩
 rw [hg.block _ (by omega) (fun e=>by have:=hk _ e.symm;omega),Below.heap_alloc _ _ _ (by omega)];exact h.loc
theorem RDK.app1 {r q B g cap:Nat} {w2 w3 w4:World} {V1 V2:Value} {l1 l2:TrL} {xs1 xs2:List Value} {P1 X1 P2 X2:Nat→Prop} {o:Obj} {s:TrS} {cs:List Value} (h:RDK r q B w2 V1 V2 l1 l2 xs1 xs2 P1 X1 P2 X2) (m:Z0 r w2 w3) (hd:TS w3 (Zs w2 w3) s cs)
   (hown4:w4.ownsRow B 68 5 (.slice (some ⟨g,0,none⟩) (l1.len+1) cap) (l1.len+1) (xs1++cs)) (hg:(w3.alloc o).grownBy w4 V1.ownBlock) (hat:V1.ownBlock=some g∨g=(w3.alloc o).heap.size) :
   ∃ P',RDK r q B (w4.setCell ⟨q,0,none⟩ (.slice (some ⟨g,0,none⟩) (l1.len+1) cap)) (.slice (some ⟨g,0,none⟩) (l1.len+1) cap) V2 (l1.snoc s) l2 (xs1++cs) xs2 P' (fun b=>X1 b∨(w2.heap.size≤b∧b < w4.heap.size)) P2 X2:=by
 have h3:=h.next m
 obtain ⟨P',hR⟩:=h.r1.app h.lt m h.rB hd hown4 hg hat
 obtain ⟨q1,q3⟩:=h3.grown hg h3.own1
 have hsz:∀ v,(w4.setCell ⟨q,0,none⟩ v).heap.size=w4.heap.size:=fun v=>by simp [World.setCell]
 have hs:=m.size
 have ha:(w3.alloc o).heap.size=w3.heap.size+1:=by simp
 have hs4:=hg.size
 have hlt:=h.lt
 have hR2:=(h3.r2.other (World.grownBy_alloc w3 o none) (fun _ e=>by cases e)).other hg (fun b e hx=>h.dis b (h.r1.inX b (.inr e)) hx)
 refine ⟨P',heap_setCell_same _ _ 0 _ _ _ q1,hR.next (Z0.set (r:=q)) h.qB,hR2.next (Z0.set (r:=q)) h.qB,?_,fun b hb=>?_,fun b hb=>?_,h.rB,h.qB,h.rq,by rw [hsz];exact q3⟩
 · intro b hb hx
   rcases hb with hb|hb
   · exact h.dis b hb hx
   · have:=(h.b2 b hx).2;omega
 · rw [hsz]
   rcases hb with hb|hb
   · have:=h.b1 b hb;omega
   · omega
 · rw [hsz];have:=h.b2 b hb;omega
theorem RDK.app2 {r q B g cap:Nat} {w2 w3 w4:World} {V1 V2:Value} {l1 l2:TrL} {xs1 xs2:List Value} {P1 X1 P2 X2:Nat→Prop} {o:Obj} {s:TrS} {cs:List Value} (h:RDK r q B w2 V1 V2 l1 l2 xs1 xs2 P1 X1 P2 X2) (m:Z0 r w2 w3) (hd:TS w3 (Zs w2 w3) s cs)
   (hown4:w4.ownsRow B 87 4 (.slice (some ⟨g,0,none⟩) (l2.len+1) cap) (l2.len+1) (xs2++cs)) (hg:(w3.alloc o).grownBy w4 V2.ownBlock) (hat:V2.ownBlock=some g∨g=(w3.alloc o).heap.size) :
   ∃ P',RDK r q B (w4.setCell ⟨q,1,none⟩ (.slice (some ⟨g,0,none⟩) (l2.len+1) cap)) V1 (.slice (some ⟨g,0,none⟩) (l2.len+1) cap) l1 (l2.snoc s) xs1 (xs2++cs) P1 X1 P' (fun b=>X2 b∨(w2.heap.size≤b∧b < w4.heap.size)):=by
 have h3:=h.next m
 obtain ⟨P',hR⟩:=h.r2.app h.lt m h.rB hd hown4 hg hat
 obtain ⟨q1,q3⟩:=h3.grown hg h3.own2
 have hsz:∀ v,(w4.setCell ⟨q,1,none⟩ v).heap.size=w4.heap.size:=fun v=>by simp [World.setCell]
 have hs:=m.size
 have ha:(w3.alloc o).heap.size=w3.heap.size+1:=by simp
 have hs4:=hg.size
 have hlt:=h.lt
 have hR1:=(h3.r1.other (World.grownBy_alloc w3 o none) (fun _ e=>by cases e)).other hg (fun b e hx=>h.dis b hx (h.r2.inX b (.inr e)))
 refine ⟨P',heap_setCell_same _ _ 1 _ _ _ q1,hR1.next (Z0.set (r:=q)) h.qB,hR.next (Z0.set (r:=q)) h.qB,?_,fun b hb=>?_,fun b hb=>?_,h.rB,h.qB,h.rq,by rw [hsz];exact q3⟩
 · intro b hx hb
   rcases hb with hb|hb
   · exact h.dis b hx hb
   · have:=(h.b1 b hx).2;omega
 · rw [hsz];have:=h.b1 b hb;omega
 · rw [hsz]
   rcases hb with hb|hb
   · have:=h.b2 b hb;omega
   · omega
structure Q2 (nT:Nat) (w:World) (r:Nat) (W:World) (b:Nat) (o1:Obj) (S:StP) (d:Nat):Prop where
 loc:W.heap[b]? = some o1
 bl:w.heap.size≤b
 mv:Z0 r w W
 hr:r < w.heap.size
 rd:RP nT W r d S
theorem Q2.blt {w:World} {r:Nat} {W:World} {b:Nat} {o1:Obj} {S:StP} {d:Nat} (h:Q2 nT w r W b o1 S d):b < W.heap.size:=(Array.getElem?_eq_some_iff.1 h.loc).1
theorem Q2.rb {w:World} {r:Nat} {W:World} {b:Nat} {o1:Obj} {S:StP} {d:Nat} (h:Q2 nT w r W b o1 S d):r < b:=Nat.lt_of_lt_of_le h.hr h.bl
theorem Q2.make {w:World} {r:Nat} {W:World} {S:StP} {d:Nat} (m:Z0 r w W) (hr:r < w.heap.size) (h:RP nT W r d S) (cs:Array Value) (t:TypeId):Q2 nT w r (W.alloc (.cells cs t)) W.heap.size (.cells cs t (0,0)) S d:=
 ⟨heap_alloc_new _ _,m.size,m.trans (Z0.of_below (blw _ _)),hr,h.below (blw _ _)⟩
theorem Q2.next {w:World} {r:Nat} {W W':World} {b:Nat} {o1:Obj} {S S':StP} {d d':Nat} (h:Q2 nT w r W b o1 S d) (rd:RP nT W' r d' S') (m:Z0 r W W'):Q2 nT w r W' b o1 S' d':=
 ⟨m.keep h.loc (by have:=h.rb;omega),h.bl,h.mv.trans m,h.hr,rd⟩
theorem Q2.put {w:World} {r:Nat} {W:World} {b:Nat} {cs:Array Value} {t:TypeId} {S:StP} {d:Nat} (h:Q2 nT w r W b (.cells cs t (0,0)) S d) (i:Nat) (v:Value):Q2 nT w r (W.setCell ⟨b,i,none⟩ v) b (.cells (cs.setIfInBounds i v) t (0,0)) S d:=
 ⟨heap_setCell_same _ _ _ _ _ _ h.loc,h.bl,h.mv.put h.bl,h.hr,h.rd.set h.rb⟩
def Ymy (l1 l2:TrL):Ydo→TrL × TrL
 | .op x=>(l1.snoc (Ya x),l2)
 | .frag x=>(l1,l2.snoc (Ur x))
def Ych (nT:Nat) (r q B:Nat) (ts:List Tok) (l1 l2:TrL) (w:World) (e:Ending) (w':World):Prop:=e=.returned (.tuple #[])∧Ik B r q w w'∧RP nT w' r 0 (Yk (Be ts)) ∧
 ∃ (V1 V2:Value) (k1 k2:TrL) (xs1 xs2:List Value) (P1 X1 P2 X2:Nat→Prop),RDK r q B w' V1 V2 k1 k2 xs1 xs2 P1 X1 P2 X2∧k1.len+k2.len≤l1.len+l2.len+1∧∀ x us,Be ts=.ok (x,us)→(k1,k2)=Ymy l1 l2 x
theorem Ygk {ts:List Tok} (h:isS 1 omB (.ok ts)=true):Be ts=Eh (fun s=>.op ⟨0,eB,[],[],s⟩) (X8 0 ts):=by
 have h':atB 1 omB ts=true:=h
 unfold Be Tb
 rw [if_pos h']
 unfold Zk Il
 cases X8 0 ts<;>rfl
theorem Ybl {ts:List Tok} (h:isS 1 omB (.ok ts)=false) (h1:isS 2 J2 (.ok ts)=true):Be ts=Eh .op (opR 0 0 ts.tail):=by
 have h':atB 1 omB ts=false:=h
 have h1':atB 2 J2 ts=true:=h1
 unfold Be Tb ifR
 simp only [h',h1',if_true,Bool.false_eq_true,if_false]
 unfold Zk Il
 cases opR 0 0 ts.tail<;>rfl
theorem Yl0 {ts:List Tok} (h:isS 1 omB (.ok ts)=false) (h1:isS 2 J2 (.ok ts)=false) (h2:isS 2 Nz (.ok ts)=true):Be ts=Eh .op (opR 1 0 ts.tail):=by
 have h':atB 1 omB ts=false:=h
 have h1':atB 2 J2 ts=false:=h1
 have h2':atB 2 Nz ts=true:=h2
 unfold Be Tb ifR
 simp only [h',h1',h2',if_true,Bool.false_eq_true,if_false]
 unfold Zk Il
 cases opR 1 0 ts.tail<;>rfl
theorem Yeu {ts:List Tok} (h:isS 1 omB (.ok ts)=false) (h1:isS 2 J2 (.ok ts)=false) (h2:isS 2 Nz (.ok ts)=false) (h3:isS 2 Cr (.ok ts)=true):Be ts=Eh .frag (Ud 0 ts.tail):=by
 have h':atB 1 omB ts=false:=h
 have h1':atB 2 J2 ts=false:=h1
 have h2':atB 2 Nz ts=false:=h2
 have h3':atB 2 Cr ts=true:=h3
 unfold Be Tb ifR
 simp only [h',h1',h2',h3',if_true,Bool.false_eq_true,if_false]
 unfold Zk Il
 cases Ud 0 ts.tail<;>rfl
theorem Ydr {ts:List Tok} (h:isS 1 omB (.ok ts)=false) (h1:isS 2 J2 (.ok ts)=false) (h2:isS 2 Nz (.ok ts)=false) (h3:isS 2 Cr (.ok ts)=false):Be ts=.error 2:=by
 have h':atB 1 omB ts=false:=h
 have h1':atB 2 J2 ts=false:=h1
 have h2':atB 2 Nz ts=false:=h2
 have h3':atB 2 Cr ts=false:=h3
 unfold Be Tb ifR
 simp only [h',h1',h2',h3',Bool.false_eq_true,if_false]
 rfl
theorem Tg {s:ByteArray} {ts:List Tok} (h:isS 2 s (.ok ts)=true):nmS (.ok ts)=.ok ts.tail∧((nmV (.ok ts)).toList == s.toList)=true:=by
 obtain ⟨t,us,e,e1,e2⟩:=Wl (Sy h)
 have e:=Except.ok.inj e
 subst e
 refine ⟨e2,?_⟩
 have h:(t.1 == 2 && (t.2.toList == s.toList))=true:=h
 rw [Bool.and_eq_true] at h
 rw [e1];exact h.2
variable {nT:Nat}
theorem Yf9 (ts:List Tok) (r q B:Nat) (w:World) (V1 V2:Value) (l1 l2:TrL) (xs1 xs2:List Value) (P1 X1 P2 X2:Nat→Prop) (hG:Ze ts) (hL:ts.length≤200000) (h:RP nT w r 0 (.ok ts)) (hK:RDK r q B w V1 V2 l1 l2 xs1 xs2 P1 X1 P2 X2) (hn1:l1.len≤200001) (_hn2:l2.len≤200001) (h1:isS 1 omB (.ok ts)=true):Calls Tryz.prog 44 #[.pointer (some ⟨r,0,none⟩),.pointer (some ⟨q,0,none⟩)] w (Ych nT r q B ts l1 l2 w):=by
 obtain ⟨i0,hi,hz0,hz1,hz2⟩:=info_parts Yaw
 have HRK:=Hd hK
 have HI:=Hd (ris r 0 (.ok ts) omB w h)
 rw [h1] at HI
 have HR:=Hd (Ygk h1)
 have HS:=fun wx (hr:RP nT wx r 0 (.ok ts))=>Hd ((C0 200000 (Nat.le_refl _)).2 0 (.ok ts) r wx (fun us e=>by rw [← Except.ok.inj e];exact hG) (fun us e=>by rw [← Except.ok.inj e];exact hL) (by decide) hr)
 have HH:=Hd h
 obtain ⟨A1,c1,rfl⟩:=Yw hK.r1.own
 clear h hK hG hL h1
 go_enter Tryz.func44,Tryz.ntmps44
 go_wp2_with fail
 refine HI.out.mono ?_
 rintro e w1 ⟨rfl,hb1⟩
 have M1:=Hd ((Z0.of_below (r:=r) hb1).trans (Z0.of_below (Below.drew (Below.refl _ _))))
 have R1:=Hd ((HH.out.below hb1).below (Below.drew (Below.refl _ _)))
 have D1:=Hd (HRK.out.next M1.out)
 obtain ⟨y0,y1,yz⟩:=ptc D1.out.loc
 have yf0:=yz 0
 have yf1:=yz 1
 clear yz hb1 HI HH
 go_wp2_with fail
 refine wp_region_held_drew (S:=fun _=>True) (by kernel_rfl) trivial (fun _=>?_)
 refine tkE (i:=0) (v:=?_) rfl (Or.inl ⟨by rfl,?_⟩) ?_
 rotate_left
 · (intro w _;go_simp;try with_reducible rfl)
 simp only [Act.put,List.setIfInBounds_toArray]
 refine tkE (i:=1) (v:=?_) rfl (Or.inl ⟨by rfl,?_⟩) ?_
 rotate_left
 · (intro w _;go_simp;try with_reducible rfl)
 simp only [Act.put]
 refine tkE (i:=2) (v:=?_) rfl (Or.inl ⟨by rfl,?_⟩) ?_
 rotate_left
 · (intro w _;go_simp;try with_reducible rfl)
 simp only [Act.put]
 refine tkE (i:=3) (v:=?_) rfl (Or.inl ⟨by rfl,?_⟩) ?_
 rotate_left
 · (intro w _;go_simp;try with_reducible rfl)
 simp only [Act.put]
 refine tkE (i:=5) (v:=?_) rfl (Or.inl ⟨by rfl,?_⟩) ?_
 rotate_left
 · (intro w _;go_simp;try with_reducible rfl)
 simp only [Act.put]
 refine rd2E 4 6 rfl rfl (fun KK hKK=>?_) (fun KK hKK=>?_)
 focus
   go_simp
   refine hKK.out _ _ trivial (fun _=>?_)
   clear hKK KK
   try simp only [Act.put,stT,stZ,stS]
   refine rd1E 6 rfl (fun KK hKK=>?_)
   go_simp
   go_at_call 104
   refine (HS _ R1.out).out.mono ?_
   rintro e w3 ⟨A9,n9,k9,rfl,⟨xt,hxt,hxe⟩,r3,m3⟩
   have XT:=Hd hxt
   have XE:=Hd hxe
   have R3:=Hd r3
   have M3:=Hd m3
   have K3:=Hd (D1.out.next m3)
   clear hxt hxe r3 m3 y0 y1 yf0 yf1
   obtain ⟨j0,j1,jz⟩:=ptc K3.out.loc
   have jf0:=jz 0
   have jf1:=jz 1
   clear jz
   have jA:=fun o=>(World.cell?_of_block (a:=⟨q,0,none⟩) (Below.heap_alloc w3 o _ (Nat.lt_of_lt_of_le K3.out.qB K3.out.lt))).trans j0
   refine hKK.out _ _ trivial (fun _=>?_)
   clear hKK KK
   try simp only [Act.put,stT,stZ,stS]
   refine tkE (i:=7) (v:=?_) rfl (Or.inl ⟨by rfl,?_⟩) ?_
   rotate_left
   · (intro w _;go_simp;try with_reducible rfl)
   simp only [Act.put,List.setIfInBounds_toArray]
   refine rd1E 8 rfl (fun KK hKK=>?_)
   go_simp
   refine hKK.out _ _ trivial (fun _=>?_)
   clear hKK KK
   try simp only [Act.put,stT,stZ,stS]
   refine rd1E 9 rfl (fun KK hKK=>?_)
   skip
 rotate_left
 focus
   go_simp
   go_at_call 104
   refine (HS _ R1.out).out.mono ?_
   rintro e w3 ⟨A9,n9,k9,rfl,⟨xt,hxt,hxe⟩,r3,m3⟩
   have XT:=Hd hxt
   have XE:=Hd hxe
   have R3:=Hd r3
   have M3:=Hd m3
   have K3:=Hd (D1.out.next m3)
   clear hxt hxe r3 m3 y0 y1 yf0 yf1
   obtain ⟨j0,j1,jz⟩:=ptc K3.out.loc
   have jf0:=jz 0
   have jf1:=jz 1
   clear jz
   have jA:=fun o=>(World.cell?_of_block (a:=⟨q,0,none⟩) (Below.heap_alloc w3 o _ (Nat.lt_of_lt_of_le K3.out.qB K3.out.lt))).trans j0
   refine hKK.out _ _ trivial (fun _=>?_)
   clear hKK KK
   try simp only [Act.put,stT,stZ,stS]
   refine tkE (i:=7) (v:=?_) rfl (Or.inl ⟨by rfl,?_⟩) ?_
   rotate_left
   · (intro w _;go_simp;try with_reducible rfl)
   simp only [Act.put,List.setIfInBounds_toArray]
   refine rd2E 4 8 rfl rfl (fun KK hKK=>?_) (fun KK hKK=>?_)
   focus
     go_simp
     refine hKK.out _ _ trivial (fun _=>?_)
     clear hKK KK
     try simp only [Act.put,stT,stZ,stS]
     refine rd1E 8 rfl (fun KK hKK=>?_)
     go_simp
     refine hKK.out _ _ trivial (fun _=>?_)
     clear hKK KK
     try simp only [Act.put,stT,stZ,stS]
     refine rd1E 9 rfl (fun KK hKK=>?_)
     skip
   rotate_left
   focus
     go_simp
     refine hKK.out _ _ trivial (fun _=>?_)
     clear hKK KK
     try simp only [Act.put,stT,stZ,stS]
     refine rd1E 4 rfl (fun KK hKK=>?_)
     go_simp
     refine hKK.out _ _ trivial (fun _=>?_)
     clear hKK KK
     try simp only [Act.put,stT,stZ,stS]
     refine rd1E 9 rfl (fun KK hKK=>?_)
     skip
 all_goals
   refine step_append_lies _ (by rfl) _ _ 23 (by rfl) B 68 i0 (.agg #[.int .i64 0,.string ⟨#[]⟩,.slice none 0 0,.slice none 0 0,.slice none 0 0]) 5 96 Tryz.underlying23 hi hz0 hz1 hz2 (by rfl) (by decide) _ l1.len xs1 (by rfl) (Xn K3.out.r1.own ((Below.refl _ _).alloc (Nat.le_refl _) _)) _ 1 1 [.int .i64 0,.string ⟨#[]⟩,.slice none 0 0,.slice none 0 0,.slice A9 n9 k9] (by rfl) (by rfl) (fun j u hj=>World.news_of_block (heap_alloc_new _ _) j u hj) (by intro y hy;simp at hy;rcases hy with rfl|rfl|rfl|rfl|rfl<;>rfl) (by decide) (by unfold maxLen;omega) (by omega) (by have h1:=K3.out.lt;simp;omega) _ (by rfl) ?_
   intro gg cap2 w4 hown4 hgrow hat hlt4
   have HG4:=Hd hgrow
   have HO4:=Hd hown4
   have HT4:=Hd hat
   have HL4:=Hd (K3.out.grown hgrow K3.out.own1)
   clear hgrow hown4 hat j0 j1 jf0 jf1
   obtain ⟨z0,z1,zz⟩:=ptc HL4.out.1
   have zf0:=zz 0
   have zf1:=zz 1
   clear zz
   refine hKK.out _ _ trivial (fun _=>?_)
   clear hKK KK
   simp only [Act.put,List.setIfInBounds_toArray]
   refine tkE (i:=10) (v:=?_) rfl (Or.inl ⟨by rfl,?_⟩) ?_
   rotate_left
   · (intro w _;go_simp;try with_reducible rfl)
   simp only [Act.put]
   refine tkE (i:=11) (v:=?_) rfl (Or.inl ⟨by rfl,?_⟩) ?_
   rotate_left
   · (intro w _;go_simp;try with_reducible rfl)
   simp only [Act.put]
   refine rd1E 12 rfl (fun KK hKK=>?_)
   go_simp
   refine hKK.out _ _ trivial (fun _=>?_)
   clear hKK KK
   try simp only [Act.put,stT,stZ,stS]
   refine wpAnyH_done (by kernel_rfl) ?_ _
   obtain ⟨P5,K5⟩:=RDK.app1 HRK.out (M1.out.trans M3.out) ((TS.int (TS.str (Nat.zero_le _) (TS.row (TP.none _ _) (TS.row (TP.none _ _) (TS.row (TP.keep (fun b hb=>⟨⟨Nat.le_trans M1.out.size hb.1,hb.2⟩,rfl⟩) _ _ XT.out) (TS.nil _ _))))):TS w3 (Zs w w3) (.cons (.one (.int .i64 0)) (.cons (.one (.string ⟨#[]⟩)) (.cons (.row .nil) (.cons (.row .nil) (.cons (.row xt) .nil))))) [.int .i64 0,.string ⟨#[]⟩,.slice none 0 0,.slice none 0 0,.slice A9 n9 k9])) HO4.out HG4.out HT4.out
   have RG:=((R3.out).below (blw _ _)).grown HG4.out (fun b hb=>by have:=K3.out.own1 b hb;have:=K3.out.rB;omega)
   have S4:=((Ik.of (M1.out.trans M3.out) HRK.out.lt:Ik B r q w _).grown K3.out.lt HG4.out K3.out.own1).put (i:=0) (v:=.slice (some ⟨gg,0,none⟩) (l1.len+1) cap2)
   have R5:=RG.set (b:=q) (i:=0) (v:=.slice (some ⟨gg,0,none⟩) (l1.len+1) cap2) HRK.out.rq
   clear z0 z1 zf0 zf1
   go_wp2_with fail
   go_end0
   refine ⟨rfl,S4,?_,_,_,_,_,_,_,_,_,_,_,K5,by rw [TrL.snoc_len];omega,fun x us e=>?_⟩
   · rw [HR.out,Yc];exact R5
   · rw [HR.out] at e
     obtain ⟨v,e2,rfl⟩:=Jp e
     rw [XE.out v us e2]
     rfl
variable {nT:Nat}
theorem Yi4 (ts:List Tok) (r q B:Nat) (w:World) (V1 V2:Value) (l1 l2:TrL) (xs1 xs2:List Value) (P1 X1 P2 X2:Nat→Prop) (hG:Ze ts) (hL:ts.length≤200000) (h:RP nT w r 0 (.ok ts)) (hK:RDK r q B w V1 V2 l1 l2 xs1 xs2 P1 X1 P2 X2) (hn1:l1.len≤200001) (_hn2:l2.len≤200001) (k:Int) (hw:(isS 2 J2 (.ok ts)=true∧k=0)∨(isS 2 J2 (.ok ts)=false∧isS 2 Nz (.ok ts)=true∧k=1)) (h1:isS 1 omB (.ok ts)=false):Calls Tryz.prog 44 #[.pointer (some ⟨r,0,none⟩),.pointer (some ⟨q,0,none⟩)] w (Ych nT r q B ts l1 l2 w):=by
 obtain ⟨i0,hi,hz0,hz1,hz2⟩:=info_parts Yaw
 have HRK:=Hd hK
 have hrlt:=h.lt
 have HI:=Hd (ris r 0 (.ok ts) omB w h)
 rw [h1] at HI
 have HR0:Hid (Be ts=Eh .op (opR k 0 ts.tail)):=Hd (by
  rcases hw with ⟨h2,rfl⟩|⟨h2,h3,rfl⟩
  · exact Ybl h1 h2
  · exact Yl0 h1 h2 h3)
 obtain ⟨sw,hsw,htw⟩:∃ s,isS 2 s (.ok ts)=true∧(s.toList == [109,117,116,97,116,105,111,110])=decide (k=1):=by
  rcases hw with ⟨h2,rfl⟩|⟨h2,h3,rfl⟩
  · exact ⟨_,h2,by decide +kernel⟩
  · exact ⟨_,h3,by decide +kernel⟩
 obtain ⟨e0,t0⟩:=Tg hsw
 have NW:=Hd e0
 have G1:Hid (Ze ts.tail):=Hd (Zr (Zf (show atB 2 sw ts=true from hsw)).1 hG)
 have L1:Hid (ts.tail.length≤200000):=Hd (Nat.le_trans (Nat.le_of_lt (Zf (show atB 2 sw ts=true from hsw)).2) hL)
 have HH:=Hd h
 obtain ⟨A1,c1,rfl⟩:=Yw hK.r1.own
 obtain ⟨nw,hnw⟩:∃ n,nmV (.ok ts)=n:=⟨_,rfl⟩
 have HNW:=Hd hnw
 have tw:(nw.toList == [109,117,116,97,116,105,111,110])=decide (k=1):=by
  rw [hnw] at t0
  rw [eq_of_beq t0]
  exact htw
 have hfl:∀ (k:Int) (s:ByteArray) (w:World),(Instr.field 70 (.agg #[.int .i64 k,.string s]) 0).run Tryz.prog w=.ok (.int .i64 k) w:=fun _ _ _=>by kernel_rfl
 clear h hK hG hL h1 t0 e0 hnw hsw htw
 go_enter Tryz.func44,Tryz.ntmps44
 go_wp2_with fail
 refine HI.out.mono ?_
 rintro e w1 ⟨rfl,hb1⟩
 have M1:=Hd (Z0.of_below (r:=r) hb1)
 have R1:=Hd (HH.out.below hb1)
 have SA:=Hd (O8 r 0 (.ok ts) J2 w1 R1.out)
 clear hb1 HI HH
 go_wp2_with fail
 refine SA.out.mono ?_
 rintro e w2 ⟨rfl,hb2⟩
 refine Or.elim hw (fun hq=>?_) (fun hm=>?_)
 focus
  obtain ⟨h2,hk⟩:=hq
  rw [h2]
  rw [show decide (k=1)=false by rw [hk];rfl] at tw
  have K2:=Hd (Q2.make (M1.out.trans (Z0.of_below (r:=r) hb2)) hrlt (R1.out.below hb2) #[.int .i64 0,.string ⟨#[]⟩,.slice none 0 0,.slice none 0 0,.slice none 0 0] 68)
  have NM:=Hd (L2 r 0 (.ok ts) _ K2.out.rd)
  rw [HNW.out,NW.out] at NM
  go_wp2_with fail
  refine NM.out.mono ?_
  rintro e w4 ⟨rfl,h4,m4⟩
  have K4:=Hd (K2.out.next h4 m4)
  have K5:Hid (Q2 nT w r w4 w2.heap.size (.cells #[.int .i64 k,.string ⟨#[]⟩,.slice none 0 0,.slice none 0 0,.slice none 0 0] 68 (0,0)) (.ok ts.tail) 0):=by rw [hk];exact K4
  have PK:=Hd (Fw r 0 (.ok ts.tail) _ K5.out.rd)
  go_wp2_with fail
  clear h2 hb2 R1 M1 SA h4 m4 NM K2 K4
  generalize w2.heap.size=b at K5 ⊢
  generalize w4=w5 at K5 PK ⊢
 rotate_left
 focus
  obtain ⟨h2,h3,hk⟩:=hm
  rw [h2]
  rw [show decide (k=1)=true by rw [hk];rfl] at tw
  have R2:=Hd (R1.out.below hb2)
  have M2:=Hd (M1.out.trans (Z0.of_below (r:=r) hb2))
  have SB:=Hd (O8 r 0 (.ok ts) Nz w2 R2.out)
  rw [h3] at SB
  clear hb2 R1 M1
  have R1:=R2
  have M1:=M2
  go_wp2_with fail
  refine SB.out.mono ?_
  rintro e w3 ⟨rfl,hb2⟩
  have K2:=Hd (Q2.make (M1.out.trans (Z0.of_below (r:=r) hb2)) hrlt (R1.out.below hb2) #[.int .i64 0,.string ⟨#[]⟩,.slice none 0 0,.slice none 0 0,.slice none 0 0] 68)
  have NM:=Hd (L2 r 0 (.ok ts) _ K2.out.rd)
  rw [HNW.out,NW.out] at NM
  go_wp2_with fail
  refine NM.out.mono ?_
  rintro e w4 ⟨rfl,h4,m4⟩
  have K4:=Hd (K2.out.next h4 m4)
  obtain ⟨y0,y1,y2,y3,y4,yz⟩:=gvc K4.out.loc
  have yf0:=yz 0
  have K5:Hid (Q2 nT w r (w4.setCell ⟨w3.heap.size,0,none⟩ (.int .i64 1)) w3.heap.size (.cells #[.int .i64 k,.string ⟨#[]⟩,.slice none 0 0,.slice none 0 0,.slice none 0 0] 68 (0,0)) (.ok ts.tail) 0):=by rw [hk];exact Hd (K4.out.put 0 (.int .i64 1))
  have PK:=Hd (Fw r 0 (.ok ts.tail) _ K5.out.rd)
  go_wp2_with fail
  clear h2 h3 yz h4 m4 NM K2 K4 R1 M1 R2 M2 SA SB hb2 y0 y1 y2 y3 y4 yf0
  generalize w4.setCell ⟨w3.heap.size,0,none⟩ (.int .i64 1)=w5 at K5 PK ⊢
  generalize w3.heap.size=b at K5 ⊢
 all_goals
  refine PK.out.mono ?_
  rintro e w6 ⟨rfl,hb6⟩
  have K6:=Hd (K5.out.next (K5.out.rd.below hb6) (Z0.of_below hb6))
  clear hb6 PK K5 hk
  refine Or.elim (Bool.eq_false_or_eq_true (F2 (.ok ts.tail))) (fun hwd=>?_) (fun hwd=>?_)
  focus
    have e2:((V6 (.ok ts.tail)).1 == 2)=true:=by rw [← Lo];exact hwd
    have HR:=Hd (HR0.out.trans (congrArg (Eh Ydo.op) (((show opR k 0 ts.tail=Za (opR k 0) (.ok ts.tail) from rfl).trans (Ykv (kind:=k) (d:=0) hwd)).trans (Ns k 0 (nmV (.ok ts.tail)) (nmS (.ok ts.tail))))))
    have NS:=Hd (Ib (S:=.ok ts.tail) (fun us e=>by rw [← Except.ok.inj e];exact G1.out))
    have G3:Hid (∀ us,(nmS (.ok ts.tail))=.ok us→Ze us∧us.length≤200000):=Hd (fun us e=>by
      obtain ⟨u1,e1,s1,l1⟩:=Un e
      have e1:=Except.ok.inj e1
      subst e1
      exact ⟨Zr s1 G1.out,by have:=L1.out;omega⟩)
    have NB:=Hd (L2 r 0 (.ok ts.tail) _ K6.out.rd)
    clear hwd HR0 HNW NW
    go_wp2_with fail
    refine NB.out.mono ?_
    rintro e w7 ⟨rfl,h7,m7⟩
    have K7:=Hd (K6.out.next h7 m7)
    obtain ⟨y0,y1,y2,y3,y4,yz⟩:=gvc K7.out.loc
    have yf1:=yz 1
    have K8:Hid (Q2 nT w r (w7.setCell ⟨b,1,none⟩ (.string (nmV (.ok ts.tail)))) b (.cells #[.int .i64 k,.string (nmV (.ok ts.tail)),.slice none 0 0,.slice none 0 0,.slice none 0 0] 68 (0,0)) (nmS (.ok ts.tail)) 0):=Hd (K7.out.put 1 (.string (nmV (.ok ts.tail))))
    obtain ⟨NV,hNV⟩:∃ n,(nmV (.ok ts.tail))=n:=⟨_,rfl⟩
    obtain ⟨S3,hS3⟩:∃ S,(nmS (.ok ts.tail))=S:=⟨_,rfl⟩
    rw [hNV,hS3] at HR
    rw [hS3] at G3
    rw [hNV] at NS
    have VI:=Hd (Ylk 0 r S3 _ (fun us e=>(G3.out us e).1) (fun us e=>(G3.out us e).2) (by decide) (hS3 ▸ K8.out.rd))
    go_wp2_with fail
    rw [hNV,hS3] at K8
    clear h7 m7 yz NB K6 K7 y0 y1 y2 y3 y4 yf1 hS3
    rw [hNV] at VI
    generalize w7.setCell ⟨b,1,none⟩ (.string NV)=w8 at K8 VI ⊢
    clear hNV
  rotate_left
  focus
    have e2:((V6 (.ok ts.tail)).1 == 2)=false:=by rw [← Lo];exact hwd
    have HR:=Hd (HR0.out.trans (congrArg (Eh Ydo.op) (((show opR k 0 ts.tail=Za (opR k 0) (.ok ts.tail) from rfl).trans (Ykd (kind:=k) (d:=0) hwd)).trans (Ns k 0 ⟨#[]⟩ (.ok ts.tail)))))
    go_wp2_with fail
    obtain ⟨NV,hNV⟩:∃ n:ByteArray,⟨#[]⟩=n:=⟨_,rfl⟩
    obtain ⟨S3,hS3⟩:∃ S:StP,.ok ts.tail=S:=⟨_,rfl⟩
    have NS:Hid (NV.size≤9000):=Hd (by rw [← hNV];exact Nat.zero_le _)
    have G3:Hid (∀ us,S3=.ok us→Ze us∧us.length≤200000):=Hd (fun us e=>by
      rw [← hS3] at e
      have e1:=Except.ok.inj e
      subst e1
      exact ⟨G1.out,L1.out⟩)
    have K8:Hid (Q2 nT w r w6 b (.cells #[.int .i64 k,.string NV,.slice none 0 0,.slice none 0 0,.slice none 0 0] 68 (0,0)) S3 0):=by rw [← hNV,← hS3];exact K6
    rw [hNV,hS3] at HR
    have VI:=Hd (Ylk 0 r S3 _ (fun us e=>(G3.out us e).1) (fun us e=>(G3.out us e).2) (by decide) K8.out.rd)
    clear hwd HR0 HNW NW K6 hS3 hNV
    generalize w6=w8 at K8 VI ⊢
  all_goals
    have G4:Hid (∀ us,(Yk (Za (Jj 0) S3))=.ok us→Ze us∧us.length≤200000):=Hd (fun us e=>by
      obtain ⟨a,e1,_⟩:=J0 e
      obtain ⟨vs,e2,hp⟩:=Xs e1
      have hs:=Ygu 0 vs a us hp
      exact ⟨Zr hs (G3.out _ e2).1,Nat.le_trans hs.length_le (G3.out _ e2).2⟩)
    have G5:Hid (∀ us,(Yk (Za (Zp true 0) (Yk (Za (Jj 0) S3))))=.ok us→Ze us∧us.length≤200000):=Hd (fun us e=>by
      obtain ⟨a,e1,_⟩:=J0 e
      obtain ⟨vs,e2,hp⟩:=Xs e1
      have hs:=Im true 0 vs a us hp
      exact ⟨Zr hs (G4.out _ e2).1,Nat.le_trans hs.length_le (G4.out _ e2).2⟩)
    have HDR:=fun wy (hr:RP nT wy r 0 (Yk (Za (Jj 0) S3)))=>Hd (Zvb true 0 r (Yk (Za (Jj 0) S3)) wy (fun us e=>(G4.out us e).1) (fun us e=>(G4.out us e).2) (by decide) hr)
    have HSR:=fun wx (hr:RP nT wx r 0 (Yk (Za (Zp true 0) (Yk (Za (Jj 0) S3)))))=>Hd ((C0 200000 (Nat.le_refl _)).2 0 (Yk (Za (Zp true 0) (Yk (Za (Jj 0) S3)))) r wx (fun us e=>(G5.out us e).1) (fun us e=>(G5.out us e).2) (by decide) hr)
    refine VI.out.mono ?_
    rintro e w9 ⟨A2,n2,k2,rfl,⟨x2,hx,hxe⟩,h9,m9⟩
    have KA:=Hd (K8.out.next h9 m9)
    have HX2:=Hd hxe
    have OA2:=Hd (OvS.of (show TS _ (Zs _ w9) (.cons (.row x2) .nil) [.slice A2 n2 k2] from TS.row hx (TS.nil _ _)) K8.out.blt)
    obtain ⟨y0,y1,y2,y3,y4,yz⟩:=gvc KA.out.loc
    have yf2:=yz 2
    have KB2:Hid (Q2 nT w r (w9.setCell ⟨b,2,none⟩ (.slice A2 n2 k2)) b (.cells #[.int .i64 k,.string NV,.slice A2 n2 k2,.slice none 0 0,.slice none 0 0] 68 (0,0)) (Yk (Za (Jj 0) S3)) 0):=Hd (KA.out.put 2 (.slice A2 n2 k2))
    have O2:=Hd (OA2.out.put (Nat.le_refl _) (i:=2) (v:=.slice A2 n2 k2))
    clear yz KA hx hxe h9 m9 VI K8 OA2
    have DI:=HDR _ KB2.out.rd
    go_wp2_with fail
    clear y0 y1 y2 y3 y4 yf2
    refine DI.out.mono ?_
    rintro e w10 ⟨A3,n3,k3,rfl,⟨x3,hx,hxe⟩,h9,m9⟩
    have KA:=Hd (KB2.out.next h9 m9)
    have HX3:=Hd hxe
    have OA3:=Hd (OvS.of (show TS _ (Zs _ w10) (.cons (.row x3) .nil) [.slice A3 n3 k3] from TS.row hx (TS.nil _ _)) KB2.out.blt)
    have OA2:=Hd (O2.out.next m9 KB2.out.rb)
    obtain ⟨y0,y1,y2,y3,y4,yz⟩:=gvc KA.out.loc
    have yf3:=yz 3
    have KB3:Hid (Q2 nT w r (w10.setCell ⟨b,3,none⟩ (.slice A3 n3 k3)) b (.cells #[.int .i64 k,.string NV,.slice A2 n2 k2,.slice A3 n3 k3,.slice none 0 0] 68 (0,0)) (Yk (Za (Zp true 0) (Yk (Za (Jj 0) S3)))) 0):=Hd (KA.out.put 3 (.slice A3 n3 k3))
    have O2:=Hd (OA2.out.put (Nat.le_refl _) (i:=3) (v:=.slice A3 n3 k3))
    have O3:=Hd (OA3.out.put (Nat.le_refl _) (i:=3) (v:=.slice A3 n3 k3))
    clear yz KA hx hxe h9 m9 DI KB2 OA2 OA3
    have SI:=HSR _ KB3.out.rd
    go_wp2_with fail
    clear y0 y1 y2 y3 y4 yf3
    refine SI.out.mono ?_
    rintro e w11 ⟨A4,n4,k4,rfl,⟨x4,hx,hxe⟩,h9,m9⟩
    have KA:=Hd (KB3.out.next h9 m9)
    have HX4:=Hd hxe
    have OA4:=Hd (OvS.of (show TS _ (Zs _ w11) (.cons (.row x4) .nil) [.slice A4 n4 k4] from TS.row hx (TS.nil _ _)) KB3.out.blt)
    have OA2:=Hd (O2.out.next m9 KB3.out.rb)
    have OA3:=Hd (O3.out.next m9 KB3.out.rb)
    obtain ⟨y0,y1,y2,y3,y4,yz⟩:=gvc KA.out.loc
    have yf4:=yz 4
    have KB4:Hid (Q2 nT w r (w11.setCell ⟨b,4,none⟩ (.slice A4 n4 k4)) b (.cells #[.int .i64 k,.string NV,.slice A2 n2 k2,.slice A3 n3 k3,.slice A4 n4 k4] 68 (0,0)) (Yk (Za (X8 0) (Yk (Za (Zp true 0) (Yk (Za (Jj 0) S3)))))) 0):=Hd (KA.out.put 4 (.slice A4 n4 k4))
    have O2:=Hd (OA2.out.put (Nat.le_refl _) (i:=4) (v:=.slice A4 n4 k4))
    have O3:=Hd (OA3.out.put (Nat.le_refl _) (i:=4) (v:=.slice A4 n4 k4))
    have O4:=Hd (OA4.out.put (Nat.le_refl _) (i:=4) (v:=.slice A4 n4 k4))
    clear yz KA hx hxe h9 m9 SI KB3 OA2 OA3 OA4
    obtain ⟨wz,hwz⟩:∃ W,w11.setCell ⟨b,4,none⟩ (.slice A4 n4 k4)=W:=⟨_,rfl⟩
    have KD:=Hd (KB4.out.next (KB4.out.rd.below (Below.drew (Below.refl _ _))) (Z0.of_below (Below.drew (Below.refl _ _))))
    have K3:=Hd (HRK.out.next KD.out.mv)
    have P2:=Hd (O2.out.next (Z0.of_below (r:=r) (Below.drew (Below.refl _ _))) KB4.out.rb)
    have P3:=Hd (O3.out.next (Z0.of_below (r:=r) (Below.drew (Below.refl _ _))) KB4.out.rb)
    have P4:=Hd (O4.out.next (Z0.of_below (r:=r) (Below.drew (Below.refl _ _))) KB4.out.rb)
    rw [hwz] at KD K3 P2 P3 P4
    go_upto_region 13 with fail
    clear y0 y1 y2 y3 y4 yf4 KB4 O2 O3 O4
    obtain ⟨u0,u1,u2,u3,u4,uz⟩:=gvc KD.out.loc
    obtain ⟨j0,j1,jz⟩:=ptc K3.out.loc
    have jf0:=jz 0
    have jf1:=jz 1
    clear jz uz
    have TS3:=Hd (TS.int (TS.str NS.out (Ap (TS.keep (fun b hb=>⟨⟨by have:=hb.1;have:=KD.out.bl;omega,hb.2⟩,rfl⟩) _ _ P2.out) (Ap (TS.keep (fun b hb=>⟨⟨by have:=hb.1;have:=KD.out.bl;omega,hb.2⟩,rfl⟩) _ _ P3.out) (TS.keep (fun b hb=>⟨⟨by have:=hb.1;have:=KD.out.bl;omega,hb.2⟩,rfl⟩) _ _ P4.out)))):TS _ (Zs w _) (.cons (.one (.int .i64 k)) (.cons (.one (.string NV)) (.cons (.row x2) (.cons (.row x3) (.cons (.row x4) .nil))))) [.int .i64 k,.string NV,.slice A2 n2 k2,.slice A3 n3 k3,.slice A4 n4 k4])
    clear P2 P3 P4
    have jA:=fun o=>(show (wz.alloc o).cell? ⟨q,0,none⟩=some _ from (World.cell?_of_block (a:=⟨q,0,none⟩) (Below.heap_alloc wz o _ (Nat.lt_of_lt_of_le K3.out.qB K3.out.lt))).trans j0)
    have hBw:B≤wz.heap.size:=K3.out.lt
    refine wp_region_held_drew (S:=fun _=>True) (by kernel_rfl) trivial (fun _=>?_)
    refine tkE (i:=0) (v:=?_) rfl (Or.inl ⟨by rfl,?_⟩) ?_
    rotate_left
    · (intro w _;go_simp;try with_reducible rfl)
    simp only [Act.put,List.setIfInBounds_toArray]
    refine tkE (i:=1) (v:=?_) rfl (Or.inl ⟨by rfl,?_⟩) ?_
    rotate_left
    · (intro w _;go_simp;try with_reducible rfl)
    simp only [Act.put]
    refine tkE (i:=2) (v:=?_) rfl (Or.inl ⟨by rfl,?_⟩) ?_
    rotate_left
    · (intro w _;go_simp;try with_reducible rfl)
    simp only [Act.put]
    refine tkE (i:=3) (v:=?_) rfl (Or.inl ⟨by rfl,?_⟩) ?_
    rotate_left
    · (intro w _;go_simp;try with_reducible rfl)
    simp only [Act.put]
    refine rd2E 4 5 rfl rfl (fun KK hKK=>?_) (fun KK hKK=>?_)
    focus
      go_simp
      refine hKK.out _ _ trivial (fun _=>?_)
      clear hKK KK
      try simp only [Act.put,stT,stZ,stS]
      refine rd1E 5 rfl (fun KK hKK=>?_)
      go_simp
      refine hKK.out _ _ trivial (fun _=>?_)
      clear hKK KK
      try simp only [Act.put,stT,stZ,stS]
      refine rd1E 6 rfl (fun KK hKK=>?_)
      go_simp
      refine hKK.out _ _ trivial (fun _=>?_)
      clear hKK KK
      try simp only [Act.put,stT,stZ,stS]
      refine rd1E 7 rfl (fun KK hKK=>?_)
      skip
    rotate_left
    focus
      go_simp
      refine hKK.out _ _ trivial (fun _=>?_)
      clear hKK KK
      try simp only [Act.put,stT,stZ,stS]
      refine rd2E 4 6 rfl rfl (fun KK hKK=>?_) (fun KK hKK=>?_)
      focus
        go_simp
        refine hKK.out _ _ trivial (fun _=>?_)
        clear hKK KK
        try simp only [Act.put,stT,stZ,stS]
        refine rd1E 6 rfl (fun KK hKK=>?_)
        go_simp
        refine hKK.out _ _ trivial (fun _=>?_)
        clear hKK KK
        try simp only [Act.put,stT,stZ,stS]
        refine rd1E 7 rfl (fun KK hKK=>?_)
        skip
      rotate_left
      focus
        go_simp
        refine hKK.out _ _ trivial (fun _=>?_)
        clear hKK KK
        try simp only [Act.put,stT,stZ,stS]
        refine rd1E 4 rfl (fun KK hKK=>?_)
        go_simp
        refine hKK.out _ _ trivial (fun _=>?_)
        clear hKK KK
        try simp only [Act.put,stT,stZ,stS]
        refine rd1E 7 rfl (fun KK hKK=>?_)
        skip
    all_goals
      refine step_append_lies _ (by rfl) _ _ 23 (by rfl) B 68 i0 (.agg #[.int .i64 0,.string ⟨#[]⟩,.slice none 0 0,.slice none 0 0,.slice none 0 0]) 5 96 Tryz.underlying23 hi hz0 hz1 hz2 (by rfl) (by decide) _ l1.len xs1 (by rfl) (Xn K3.out.r1.own ((Below.refl _ _).alloc (Nat.le_refl _) _)) _ 1 1 [.int .i64 k,.string NV,.slice A2 n2 k2,.slice A3 n3 k3,.slice A4 n4 k4] (by rfl) (by rfl) (fun j u hj=>World.news_of_block (heap_alloc_new _ _) j u hj) (by intro y hy;simp at hy;rcases hy with rfl|rfl|rfl|rfl|rfl<;>rfl) (by decide) (by unfold maxLen;omega) (by omega) (by have h1:=K3.out.lt;simp;omega) _ (by rfl) ?_
      intro gg cap2 w4 hown4 hgrow hat hlt4
      have HG4:=Hd hgrow
      have HO4:=Hd hown4
      have HT4:=Hd hat
      have HL4:=Hd (K3.out.grown hgrow K3.out.own1)
      clear hgrow hown4 hat j0 j1 jf0 jf1
      obtain ⟨z0,z1,zz⟩:=ptc HL4.out.1
      have zf0:=zz 0
      have zf1:=zz 1
      clear zz
      refine hKK.out _ _ trivial (fun _=>?_)
      clear hKK KK
      simp only [Act.put,List.setIfInBounds_toArray]
      refine tkE (i:=8) (v:=?_) rfl (Or.inl ⟨by rfl,?_⟩) ?_
      rotate_left
      · (intro w _;go_simp;try with_reducible rfl)
      simp only [Act.put]
      refine tkE (i:=9) (v:=?_) rfl (Or.inl ⟨by rfl,?_⟩) ?_
      rotate_left
      · (intro w _;go_simp;try with_reducible rfl)
      simp only [Act.put]
      refine rd1E 10 rfl (fun KK hKK=>?_)
      go_simp
      refine hKK.out _ _ trivial (fun _=>?_)
      clear hKK KK
      try simp only [Act.put,stT,stZ,stS]
      refine wpAnyH_done (by kernel_rfl) ?_ _
      obtain ⟨P5,K5⟩:=RDK.app1 HRK.out KD.out.mv (TS3.out) HO4.out HG4.out HT4.out
      have RG:=((KD.out.rd).below (blw _ _)).grown HG4.out (fun b hb=>by have:=K3.out.own1 b hb;have:=K3.out.rB;omega)
      have S4:=((Ik.of KD.out.mv HRK.out.lt:Ik B r q w _).grown K3.out.lt HG4.out K3.out.own1).put (i:=0) (v:=.slice (some ⟨gg,0,none⟩) (l1.len+1) cap2)
      have R5:=RG.set (b:=q) (i:=0) (v:=.slice (some ⟨gg,0,none⟩) (l1.len+1) cap2) HRK.out.rq
      clear z0 z1 zf0 zf1
      go_wp2_with fail
      go_end0
      refine ⟨rfl,S4,?_,_,_,_,_,_,_,_,_,_,_,K5,by rw [TrL.snoc_len];omega,fun x us e=>?_⟩
      · rw [HR.out,Yc,Yc];exact R5
      · rw [HR.out] at e
        obtain ⟨o,e2,rfl⟩:=Jp e
        obtain ⟨v,e3,rfl⟩:=Jp e2
        obtain ⟨us5,e4,_⟩:=Xs e3
        obtain ⟨ds,e5,hz⟩:=J0 e4
        obtain ⟨us4,e6,_⟩:=Xs e5
        obtain ⟨vs,e7,hy⟩:=J0 e6
        rw [HX2.out vs us4 e7,HX3.out ds us5 e5,HX4.out v us e3]
        simp only [hz,hy]
        rfl
end Go.Proofs.YtpkmbhnikilihaaGreatDoor
