/- The document's reader: variables. (gen_prvars.py wrote it.) -/
import Derived.Test.YtpkmbhnikilihaaGreatDoorQr24
set_option maxRecDepth 100000
set_option maxHeartbeats 8000000
namespace Go.Proofs.YtpkmbhnikilihaaGreatDoor
open Go.RowKit
variable {nT:Nat}
theorem Yeg:(Tryz.prog.info? 119).map (fun i=>(i.zero,i.size,i.bytes))=some (some (.agg #[.string ⟨#[]⟩,.string ⟨#[]⟩,.int .i64 0,.int .i64 0,.bool false,.int .i64 0,.int .i64 0,.string ⟨#[]⟩,.slice none 0 0,.slice none 0 0]),10,136):=by kernel_rfl
theorem Q0.put {w:World} {r:Nat} {W:World} {cs:Array Value} {t:TypeId} {S:StP} {d:Nat} (h:Q0 nT w r W (.cells cs t (0,0)) S d) (i:Nat) (v:Value):Q0 nT w r (W.setCell ⟨w.heap.size,i,none⟩ v) (.cells (cs.setIfInBounds i v) t (0,0)) S d:=
 ⟨heap_setCell_same _ _ _ _ _ _ h.res,h.mv.put (Nat.le_refl _),h.hr,h.rd.set h.hr⟩
theorem Ylk (d r : Nat) (S:StP) (w:World) (hG:∀ ts,S=.ok ts→Ze ts) (hL:∀ ts,S=.ok ts→ts.length≤200000) (hd:d≤16) (h:RP nT w r d S):Calls Tryz.prog 108 #[.pointer (some ⟨r,0,none⟩)] w (Yet nT (Z5 Y7) (Jj d) d r S w):=by
 obtain ⟨i0,hi,hz0,hz1,hz2⟩:=info_parts Yeg
 have H:=Hd h
 have HD:=Hd hd
 have HRW:=Hd h.lt
 have HI:=Hd (ris r d S opB w h)
 cases hb:isS 1 opB S with
 | false =>
   rw [hb] at HI
   have HR:=Hd (Yic (d:=d) hb)
   clear h hb hd hG hL
   go_enter Tryz.func108,Tryz.ntmps108
   go_wp2_with fail
   refine HI.out.mono ?_
   rintro e w1 ⟨rfl,hb1⟩
   have B1:=Hd hb1
   clear hb1
   go_wp2_with fail
   go_ret
   refine ⟨none,0,0,rfl,⟨.nil,TP.none _ _,fun a ts e=>?_⟩,?_,Z0.of_below B1.out⟩
   · rw [HR.out] at e
     obtain ⟨_,_,rfl⟩:=Jp e
     rfl
   · rw [HR.out,Yc,show Yk (Za (fun ts=>Except.ok ((),ts)) S)=S from Jn _]
     exact H.out.below B1.out
 | true =>
   rw [hb] at HI
   have HR:=Hd (Ye6 (d:=d) hb)
   have HS1:Hid (∀ ts,tkS opB S=.ok ts→Ze ts∧ts.length≤200000∧True):=Hd (fun ts e=>by
     obtain ⟨us,e1,s1,l1⟩:=F6 e
     have:=hL us e1
     exact ⟨Zr s1 (hG us e1),by omega,trivial⟩)
   obtain ⟨Kc,hKc⟩:∃ K,Pb (Gs d) Zqu cpB [] true (tkS opB S)=K:=⟨_,rfl⟩
   rw [hKc] at HR
   have HKC:=Hd (show Pb (Gs d) Zqu cpB [] (decide (TrL.nil.len=0)) (tkS opB S)=Kc from hKc)
   have HT:=fun wx (hb:Below w.heap.size w wx)=>Hd (Id r d S opB wx (H.out.below hb))
   clear h hb hd hG hL hKc
   go_enter Tryz.func108,Tryz.ntmps108
   go_wp2_with fail
   refine HI.out.mono ?_
   rintro e w1 ⟨rfl,hb1⟩
   have B1:=Hd hb1
   clear hb1
   go_wp2_with fail
   refine (HT _ B1.out).out.mono ?_
   rintro e w2 ⟨rfl,h2,m2⟩
   have H1:=Hd h2
   have M1:=Hd ((Z0.of_below (r:=r) B1.out).trans m2)
   clear h2 m2 HT HI
   go_wp2_with fail
   go_loopg [3] 200001 (fun g v wx=>∃ (Sx:StP) (l:List Mw) (T:TrL) (co:Nat) (Ao:Option Addr),v=.slice Ao T.len co∧(∀ ts,Sx=.ok ts→ts.length < g∧T.len+ts.length≤200000)∧T.len≤200001∧Aside (RP nT wx r (d) Sx∧Z0 r w wx∧RTr 119 10 w.heap.size wx (.slice Ao T.len co) T∧Pb (Gs d) Zqu cpB l (decide (T.len=0)) Sx=Kc∧∀ ts,Sx=.ok ts→T=Z5 Y7 l∧Ze ts))
   case atStart=>exact ⟨_,[],.nil,0,none,rfl,fun ts e=>⟨by have:=(HS1.out ts e).2.1;omega,by show 0+_≤_;have:=(HS1.out ts e).2.1;omega⟩,Nat.zero_le _,Zu ⟨H1.out,M1.out,RTr.start _ _ _ _,HKC.out,fun ts e=>⟨rfl,(HS1.out ts e).1⟩⟩⟩
   case round =>
     obtain ⟨Sx,l,T,co,Ao,rfl,hms,hTl,HA⟩:=hrel
     have RX:=Hd HA.out.1
     have MX:=Hd HA.out.2.1
     have HRR:=Hd HA.out.2.2.1
     have HKX:=Hd HA.out.2.2.2.1
     have HFX:=Hd HA.out.2.2.2.2
     clear HA
     obtain ⟨A,n,c,p,dd,x0,h0,h1,h2⟩:=RX.out.cells
     obtain ⟨c0,c1,c2,c3,cz⟩:=Z8 h0
     clear cz h0
     rcases Sx with y|ts
     · obtain ⟨rfl,hy⟩:=h2
       have t1:(x0 == 0)=false:=by simpa using hy
       have hs7:=Hd (Id r d (.error x0) cpB _ RX.out)
       have HKX:=Hd (show (.error x0:Except Int (List Mw × List Tok))=Kc by rw [← HKX.out,I8])
       clear hy h1 hms
       go_wp2_with fail
       refine hs7.out.mono ?_
       rintro e w7 ⟨rfl,hh7,mm7⟩
       have H7:=Hd hh7
       have M7:=Hd (MX.out.trans mm7)
       have T7:=Hd (HRR.out.moved mm7 HRW.out)
       clear hh7 mm7
       go_wp2_with fail
       go_ret
       have hk:=HKX.out
       refine ⟨_,_,_,rfl,⟨T,T7.out.fin (by omega),fun a us e=>?_⟩,?_,M7.out⟩
       · rw [HR.out,← hk] at e
         cases e
       · rw [HR.out,← hk]
         exact H7.out
     · obtain ⟨rfl,rfl⟩:=h2
       have HF:=Hd (HFX.out ts rfl)
       obtain ⟨hg1,hg2⟩:=hms ts rfl
       have CV:=fun wy (hr:RP nT wy r (d) (.ok ts))=>Hd (Id r d (.ok ts) X9 _ hr)
       refine Or.elim (Classical.em (T.len=0∨isS 1 cpB (.ok ts)=false)) (fun hgo=>?_) (fun hend=>?_)
       focus
         cases gk with
         | zero=>omega
         | succ g =>
           refine Or.elim (Classical.em (T.len=0)) (fun hT=>?_) (fun hT=>?_)
           focus
            have t2:((T.len:Int) == 0)=true:=by simp;omega
            have HNX:=Hd (by have hk:=HKX.out;rw [Gb (Zzk d) (.inl (by simp [hT]))] at hk;exact hk)
            clear h1 hms hT hgo c0 c1 c2
            rename World=>wx
           rotate_left
           focus
            have t2:((T.len:Int) == 0)=false:=by simp;omega
            have hc:isS 1 cpB (.ok ts)=false:=by rcases hgo with h|h;exact absurd h hT;exact h
            have hi7:=Hd (ris r (d) (.ok ts) cpB _ RX.out)
            rw [hc] at hi7
            have HKX:=Hd (by have hk:=HKX.out;rw [show decide (T.len=0)=false by simp [hT]] at hk;exact hk)
            have HNX:=Hd (by have hk:=HKX.out;rw [Gb (Zzk d) (.inr hc)] at hk;exact hk)
            clear hc h1 hms hT hgo
            go_wp2_with fail
            refine hi7.out.mono ?_
            rintro e wx ⟨rfl,hb6⟩
            have RX':=Hd (RX.out.below hb6)
            have MX':=Hd (MX.out.trans (Z0.of_below (r:=r) hb6))
            have HRR':=Hd (HRR.out.moved (Z0.of_below (r:=r) hb6) HRW.out)
            clear hb6 hi7 c0 c1 c2 c3 RX MX HRR
            have RX:=RX'
            have MX:=MX'
            have HRR:=HRR'
           all_goals
            have HG1:Hid (∀ us,(tkS X9 (.ok ts))=.ok us→Ze us):=Hd (C7 (fun us e=>by rw [← Except.ok.inj e];exact HF.out.2))
            have NS1:=Hd (Ib HG1.out)
            have HG3:Hid (∀ us,(tkS Jq (nmS (tkS X9 (.ok ts))))=.ok us→Ze us):=Hd (C7 (Lx HG1.out))
            have HL3:Hid (∀ us,(tkS Jq (nmS (tkS X9 (.ok ts))))=.ok us→us.length≤200000):=Hd (fun us e=>by
              obtain ⟨u1,e1,_,l1⟩:=F6 e
              obtain ⟨u2,e2,_,l2⟩:=Un e1
              obtain ⟨u3,e3,_,l3⟩:=F6 e2
              have e3:=Except.ok.inj e3
              subst e3
              omega)
            have TA:=Hd (Id r d (.ok ts) X9 _ RX.out)
            clear CV
            go_wp2_with fail
            refine TA.out.mono ?_
            rintro e wa ⟨rfl,ha,ma⟩
            have NB:=Hd (L2 r d _ _ ha)
            have MA:=Hd ma
            clear ha ma TA
            go_wp2_with fail
            refine NB.out.mono ?_
            rintro e wb ⟨rfl,hb,mb⟩
            have MB:Hid (Z0 r wx wb):=Hd (MA.out.trans mb)
            have K0:=Hd (Q0.start hb #[.string (nmV (tkS X9 (.ok ts))),.string ⟨#[]⟩,.int .i64 0,.int .i64 0,.bool false,.int .i64 0,.int .i64 0,.string ⟨#[]⟩,.slice none 0 0,.slice none 0 0] 119)
            have TC:=Hd (Id r d _ Jq _ K0.out.rd)
            clear hb mb NB MA
            go_wp2_with fail
            refine TC.out.mono ?_
            rintro e wc ⟨rfl,hc1,mc⟩
            have K1:=Hd (K0.out.next hc1 mc)
            have TY:=Hd (Ynr 4 (Nat.le_refl _) r d _ _ K1.out.rd)
            clear hc1 mc TC K0
            go_wp2_with fail
            refine TY.out.mono ?_
            rintro e wd ⟨n,tl,tm,rfl,hnb,hx,hd1,md⟩
            have K2:=Hd (K1.out.next hd1 md)
            have NT:=Hd (hnb 9000 (fun us e t ht=>(HG3.out us e t ht).1))
            have HX:=Hd hx
            obtain ⟨y0,y1,y2,y3,y4,y5,y6,y7,y8,y9,yz⟩:=J6 K2.out.res
            have yf1:=yz 1
            have yf2:=yz 2
            have yf3:=yz 3
            have K3:Hid (Q0 nT wb r (((wd.setCell ⟨wb.heap.size,1,none⟩ (.string n)).setCell ⟨wb.heap.size,2,none⟩ (.int .i64 tl)).setCell ⟨wb.heap.size,3,none⟩ (.int .i64 tm)) (.cells #[.string (nmV (tkS X9 (.ok ts))),.string n,.int .i64 tl,.int .i64 tm,.bool false,.int .i64 0,.int .i64 0,.string ⟨#[]⟩,.slice none 0 0,.slice none 0 0] 119 (0,0)) (Yk (Za (Zl 4) (tkS Jq (nmS (tkS X9 (.ok ts)))))) d):=Hd (((K2.out.put 1 (.string n)).put 2 (.int .i64 tl)).put 3 (.int .i64 tm))
            have HQ:=Hd (ris r d (Yk (Za (Zl 4) (tkS Jq (nmS (tkS X9 (.ok ts)))))) eqB _ K3.out.rd)
            clear hd1 md hnb hx yz TY K1 K2
            go_wp2_with fail
            clear y0 y1 y2 y3 y4 y5 y6 y7 y8 y9 yf1 yf2 yf3
            cases hq:isS 1 eqB (Yk (Za (Zl 4) (tkS Jq (nmS (tkS X9 (.ok ts)))))) with
            | false =>
              rw [hq] at HQ
              have HV:=Hd (Ymo d (.ok ts) hq)
              refine HQ.out.mono ?_
              rintro e we ⟨rfl,hbe⟩
              have KE:=Hd (K3.out.next (K3.out.rd.below hbe) (Z0.of_below hbe))
              obtain ⟨z0,z1,z2,z3,z4,z5,z6,z7,z8,z9,zz⟩:=J6 KE.out.res
              clear hbe hq HQ K3 zz
              obtain ⟨xs,P,hown,hvals,hP⟩:=HRR.out
              have hrw:=HRW.out
              have hbx:=MX.out.size
              have ME:=Hd (MB.out.trans KE.out.mv)
              have HRT:=Hd (And.intro hown (And.intro (And.intro hvals hP) (And.intro hbx hrw)))
              have O3:=Hd (Xu hown ME.out hrw)
              have s3:=Hd (Nat.le_trans hbx ME.out.size)
              have HTS:=Hd (show TS we (Zs wx we) (.cons (.one (.string (nmV (tkS X9 (.ok ts))))) (.cons (.one (.string n)) (.cons (.one (.int .i64 tl)) (.cons (.one (.int .i64 tm)) (.cons (.one (.bool false)) (Lm Mj)))))) [.string (nmV (tkS X9 (.ok ts))),.string n,.int .i64 tl,.int .i64 tm,.bool false,.int .i64 0,.int .i64 0,.string ⟨#[]⟩,.slice none 0 0,.slice none 0 0] from TS.str NS1.out (TS.str NT.out (TS.int (TS.int (TS.bool (Ya6 _ _))))))
              have HXE:Hid (∀ a us,Za (Gs d) (.ok ts)=.ok (a,us)→(.cons (.one (.string (nmV (tkS X9 (.ok ts))))) (.cons (.one (.string n)) (.cons (.one (.int .i64 tl)) (.cons (.one (.int .i64 tm)) (.cons (.one (.bool false)) (Lm Mj))))))=Y7 a):=Hd (fun a us e=>by
               rw [HV.out] at e
               obtain ⟨t,e2,rfl⟩:=Jp e
               obtain ⟨v1,v2,v3⟩:=HX.out t us e2
               rw [v1,v2,v3]
               rfl)
              have RE:Hid (RP nT _ r d (Yk (Za (Gs d) (.ok ts)))):=Hd (by rw [HV.out,Yc];exact KE.out.rd)
              clear hown hvals hP hrw hbx KE HX NT NS1 HG1 HG3 HL3 MB HRR HV
              go_wp2_with (at_builtin;refine wpList_append_lies _ rfl _ _ 65 rfl w.heap.size 119 i0 (.agg #[.string ⟨#[]⟩,.string ⟨#[]⟩,.int .i64 0,.int .i64 0,.bool false,.int .i64 0,.int .i64 0,.string ⟨#[]⟩,.slice none 0 0,.slice none 0 0]) 10 136 Tryz.underlying65 hi hz0 hz1 hz2 rfl (by decide) _ T.len xs rfl (Xn O3.out (blw _ _)) _ 1 1 [.string (nmV (tkS X9 (.ok ts))),.string n,.int .i64 tl,.int .i64 tm,.bool false,.int .i64 0,.int .i64 0,.string ⟨#[]⟩,.slice none 0 0,.slice none 0 0] rfl rfl (fun j u hj=>World.news_of_block (heap_alloc_new _ _) j u hj) (by intro y hy;simp at hy;rcases hy with rfl|rfl|rfl|rfl|rfl|rfl|rfl|rfl|rfl|rfl<;>rfl) (by decide) (by unfold maxLen;omega) (by omega) (by have:=s3.out;simp;omega) _ rfl ?_;intro gg cap2 w4 hown4 hgrow hat hlt4;have HG4:=Hd hgrow;have HO4:=Hd hown4;have HT4:=Hd hat;clear hgrow hown4 hat)
              have T4:=RTr.app HRT.out.2.2.2 HRT.out.2.2.1 HRT.out.1 HRT.out.2.1.1 HRT.out.2.1.2 ME.out HTS.out HO4.out HG4.out HT4.out
              have R4:=(RE.out.below (blw _ _)).grown HG4.out (fun c hc=>by have:=(HRT.out.1.lt c hc).1;have:=HRT.out.2.2.2;omega)
              have M4:=I9 (MX.out.trans ME.out) HG4.out (fun c hc=>(HRT.out.1.lt c hc).1)
              have hrun:=HNX.out
              go_roundg g
              case measure=>omega
              case rel =>
               rcases hR1:Za (Gs d) (.ok ts) with y|a
               · rw [hR1] at hrun R4
                 refine ⟨.error y,l,T.snoc (.cons (.one (.string (nmV (tkS X9 (.ok ts))))) (.cons (.one (.string n)) (.cons (.one (.int .i64 tl)) (.cons (.one (.int .i64 tm)) (.cons (.one (.bool false)) (Lm Mj)))))),cap2,some ⟨gg,0,none⟩,by rw [TrL.snoc_len],(fun us e=>by cases e),by rw [TrL.snoc_len];omega,Zu ⟨R4,M4,by rw [TrL.snoc_len];exact T4,?_,fun us e=>by cases e⟩⟩
                 rw [I8];exact hrun
               · rw [hR1] at hrun R4
                 have hsf:=Oi hR1
                 refine ⟨.ok a.2,l++[a.1],T.snoc (.cons (.one (.string (nmV (tkS X9 (.ok ts))))) (.cons (.one (.string n)) (.cons (.one (.int .i64 tl)) (.cons (.one (.int .i64 tm)) (.cons (.one (.bool false)) (Lm Mj)))))),cap2,some ⟨gg,0,none⟩,by rw [TrL.snoc_len],(fun us e=>?_),by rw [TrL.snoc_len];omega,Zu ⟨R4,M4,by rw [TrL.snoc_len];exact T4,?_,fun us e=>?_⟩⟩
                 · have e:=Except.ok.inj e
                   subst e
                   have:=hsf.2
                   rw [TrL.snoc_len]
                   exact ⟨by omega,by omega⟩
                 · rw [show decide ((T.snoc (.cons (.one (.string (nmV (tkS X9 (.ok ts))))) (.cons (.one (.string n)) (.cons (.one (.int .i64 tl)) (.cons (.one (.int .i64 tm)) (.cons (.one (.bool false)) (Lm Mj))))))).len=0)=false by rw [TrL.snoc_len];simp]
                   exact hrun
                 · have e:=Except.ok.inj e
                   subst e
                   refine ⟨?_,Zr hsf.1 HF.out.2⟩
                   rw [HF.out.1,HXE.out a.1 a.2 (by rw [hR1]),Xa]
            | true =>
              rw [hq] at HQ
              have HV:=Hd (Yjx d (.ok ts) hq)
              refine HQ.out.mono ?_
              rintro e we ⟨rfl,hbe⟩
              have K4:=Hd (K3.out.next (K3.out.rd.below hbe) (Z0.of_below hbe))
              have TE:=Hd (Id r d _ eqB _ K4.out.rd)
              clear hbe hq HQ K3
              go_wp2_with fail
              refine TE.out.mono ?_
              rintro e wf ⟨rfl,hf1,mf⟩
              have K5:=Hd (K4.out.next hf1 mf)
              have VV:=Hd ((Ylp 200000).1 true d (tkS eqB (Yk (Za (Zl 4) (tkS Jq (nmS (tkS X9 (.ok ts))))))) r _ (C7 (fun us e=>by
               obtain ⟨a,e1,_⟩:=J0 e
               obtain ⟨vs,e2,hp⟩:=Xs e1
               exact Zr (Yc1 _ _ _ _ hp).1 (HG3.out _ e2))) (fun us e=>by
               obtain ⟨u1,e1,_,l1⟩:=F6 e
               obtain ⟨a,e2,_⟩:=J0 e1
               obtain ⟨vs,e3,hp⟩:=Xs e2
               have:=(Yc1 _ _ _ _ hp).2
               have:=HL3.out _ e3
               omega) HD.out K5.out.rd)
              clear hf1 mf TE K4
              go_wp2_with fail
              refine VV.out.mono ?_
              rintro e wg ⟨vk,vn,vs,A3,n3,k3,A4,n4,k4,rfl,⟨x,hts,hxv⟩,hg9,mg⟩
              have K6:=Hd (K5.out.next hg9 mg)
              have O6:=Hd (OvS.of hts K5.out.lt)
              have HXV:=Hd hxv
              obtain ⟨y0,y1,y2,y3,y4,y5,y6,y7,y8,y9,yz⟩:=J6 K6.out.res
              have yf4:=yz 4
              have yf5:=yz 5
              have yf6:=yz 6
              have yf7:=yz 7
              have yf8:=yz 8
              have yf9:=yz 9
              have K7:Hid (Q0 nT wb r (wg.setCell ⟨wb.heap.size,4,none⟩ (.bool true)) (.cells #[.string (nmV (tkS X9 (.ok ts))),.string n,.int .i64 tl,.int .i64 tm,.bool true,.int .i64 0,.int .i64 0,.string ⟨#[]⟩,.slice none 0 0,.slice none 0 0] 119 (0,0)) (Yk (Za (Uq true d) (tkS eqB (Yk (Za (Zl 4) (tkS Jq (nmS (tkS X9 (.ok ts))))))))) d):=Hd (K6.out.put 4 (.bool true))
              have KE:Hid (Q0 nT wb r ((((((wg.setCell ⟨wb.heap.size,4,none⟩ (.bool true)).setCell ⟨wb.heap.size,5,none⟩ (.int .i64 vk)).setCell ⟨wb.heap.size,6,none⟩ (.int .i64 vn)).setCell ⟨wb.heap.size,7,none⟩ (.string vs)).setCell ⟨wb.heap.size,8,none⟩ (.slice A3 n3 k3)).setCell ⟨wb.heap.size,9,none⟩ (.slice A4 n4 k4)) (.cells #[.string (nmV (tkS X9 (.ok ts))),.string n,.int .i64 tl,.int .i64 tm,.bool true,.int .i64 vk,.int .i64 vn,.string vs,.slice A3 n3 k3,.slice A4 n4 k4] 119 (0,0)) (Yk (Za (Uq true d) (tkS eqB (Yk (Za (Zl 4) (tkS Jq (nmS (tkS X9 (.ok ts))))))))) d):=Hd (((((K7.out.put 5 (.int .i64 vk)).put 6 (.int .i64 vn)).put 7 (.string vs)).put 8 (.slice A3 n3 k3)).put 9 (.slice A4 n4 k4))
              have O7:=Hd ((((((O6.out.put (Nat.le_refl _) (i:=4) (v:=.bool true)).put (Nat.le_refl _) (i:=5) (v:=.int .i64 vk)).put (Nat.le_refl _) (i:=6) (v:=.int .i64 vn)).put (Nat.le_refl _) (i:=7) (v:=.string vs)).put (Nat.le_refl _) (i:=8) (v:=.slice A3 n3 k3)).put (Nat.le_refl _) (i:=9) (v:=.slice A4 n4 k4))
              obtain ⟨z0,z1,z2,z3,z4,z5,z6,z7,z8,z9,zz⟩:=J6 KE.out.res
              have hsz:((((((wg.setCell ⟨wb.heap.size,4,none⟩ (.bool true)).setCell ⟨wb.heap.size,5,none⟩ (.int .i64 vk)).setCell ⟨wb.heap.size,6,none⟩ (.int .i64 vn)).setCell ⟨wb.heap.size,7,none⟩ (.string vs)).setCell ⟨wb.heap.size,8,none⟩ (.slice A3 n3 k3)).setCell ⟨wb.heap.size,9,none⟩ (.slice A4 n4 k4)).heap.size=wg.heap.size:=by simp [World.setCell]
              clear hts hxv hg9 mg yz zz VV K5 K6 K7 O6
              obtain ⟨xs,P,hown,hvals,hP⟩:=HRR.out
              have hrw:=HRW.out
              have hbx:=MX.out.size
              have ME:=Hd (MB.out.trans KE.out.mv)
              have HRT:=Hd (And.intro hown (And.intro (And.intro hvals hP) (And.intro hbx hrw)))
              have O3:=Hd (Xu hown ME.out hrw)
              have s3:=Hd (Nat.le_trans hbx ME.out.size)
              have HTS:=Hd (show TS ((((((wg.setCell ⟨wb.heap.size,4,none⟩ (.bool true)).setCell ⟨wb.heap.size,5,none⟩ (.int .i64 vk)).setCell ⟨wb.heap.size,6,none⟩ (.int .i64 vn)).setCell ⟨wb.heap.size,7,none⟩ (.string vs)).setCell ⟨wb.heap.size,8,none⟩ (.slice A3 n3 k3)).setCell ⟨wb.heap.size,9,none⟩ (.slice A4 n4 k4)) (Zs wx ((((((wg.setCell ⟨wb.heap.size,4,none⟩ (.bool true)).setCell ⟨wb.heap.size,5,none⟩ (.int .i64 vk)).setCell ⟨wb.heap.size,6,none⟩ (.int .i64 vn)).setCell ⟨wb.heap.size,7,none⟩ (.string vs)).setCell ⟨wb.heap.size,8,none⟩ (.slice A3 n3 k3)).setCell ⟨wb.heap.size,9,none⟩ (.slice A4 n4 k4))) (.cons (.one (.string (nmV (tkS X9 (.ok ts))))) (.cons (.one (.string n)) (.cons (.one (.int .i64 tl)) (.cons (.one (.int .i64 tm)) (.cons (.one (.bool true)) x))))) [.string (nmV (tkS X9 (.ok ts))),.string n,.int .i64 tl,.int .i64 tm,.bool true,.int .i64 vk,.int .i64 vn,.string vs,.slice A3 n3 k3,.slice A4 n4 k4] from TS.str NS1.out (TS.str NT.out (TS.int (TS.int (TS.bool (TS.keep (fun k hk=>⟨⟨by have:=hk.1;have:=MB.out.size;omega,hk.2⟩,rfl⟩) _ _ O7.out))))))
              have HXE:Hid (∀ a us,Za (Gs d) (.ok ts)=.ok (a,us)→(.cons (.one (.string (nmV (tkS X9 (.ok ts))))) (.cons (.one (.string n)) (.cons (.one (.int .i64 tl)) (.cons (.one (.int .i64 tm)) (.cons (.one (.bool true)) x)))))=Y7 a):=Hd (fun a us e=>by
               rw [HV.out] at e
               obtain ⟨v,e2,rfl⟩:=Jp e
               obtain ⟨us2,e3,_⟩:=Xs e2
               obtain ⟨us3,e4⟩:=Ycr e3
               obtain ⟨t,e5,hz⟩:=J0 e4
               obtain ⟨v1,v2,v3⟩:=HX.out t us3 e5
               rw [v1,v2,v3,HXV.out v us e2,hz]
               rfl)
              have RE:Hid (RP nT _ r d (Yk (Za (Gs d) (.ok ts)))):=Hd (by rw [HV.out,Yc];exact KE.out.rd)
              clear hown hvals hP hrw hbx KE HX NT NS1 HG1 HG3 HL3 MB HRR HV
              go_wp2_with (at_builtin;refine wpList_append_lies _ rfl _ _ 65 rfl w.heap.size 119 i0 (.agg #[.string ⟨#[]⟩,.string ⟨#[]⟩,.int .i64 0,.int .i64 0,.bool false,.int .i64 0,.int .i64 0,.string ⟨#[]⟩,.slice none 0 0,.slice none 0 0]) 10 136 Tryz.underlying65 hi hz0 hz1 hz2 rfl (by decide) _ T.len xs rfl (Xn O3.out (blw _ _)) _ 1 1 [.string (nmV (tkS X9 (.ok ts))),.string n,.int .i64 tl,.int .i64 tm,.bool true,.int .i64 vk,.int .i64 vn,.string vs,.slice A3 n3 k3,.slice A4 n4 k4] rfl rfl (fun j u hj=>by rw [← hsz];exact World.news_of_block (heap_alloc_new _ _) j u hj) (by intro y hy;simp at hy;rcases hy with rfl|rfl|rfl|rfl|rfl|rfl|rfl|rfl|rfl|rfl<;>rfl) (by decide) (by unfold maxLen;omega) (by omega) (by have:=s3.out;simp;omega) _ rfl ?_;intro gg cap2 w4 hown4 hgrow hat hlt4;have HG4:=Hd hgrow;have HO4:=Hd hown4;have HT4:=Hd hat;clear hgrow hown4 hat)
              have T4:=RTr.app HRT.out.2.2.2 HRT.out.2.2.1 HRT.out.1 HRT.out.2.1.1 HRT.out.2.1.2 ME.out HTS.out HO4.out HG4.out HT4.out
              have R4:=(RE.out.below (blw _ _)).grown HG4.out (fun c hc=>by have:=(HRT.out.1.lt c hc).1;have:=HRT.out.2.2.2;omega)
              have M4:=I9 (MX.out.trans ME.out) HG4.out (fun c hc=>(HRT.out.1.lt c hc).1)
              have hrun:=HNX.out
              go_roundg g
              case measure=>omega
              case rel =>
               rcases hR1:Za (Gs d) (.ok ts) with y|a
               · rw [hR1] at hrun R4
                 refine ⟨.error y,l,T.snoc (.cons (.one (.string (nmV (tkS X9 (.ok ts))))) (.cons (.one (.string n)) (.cons (.one (.int .i64 tl)) (.cons (.one (.int .i64 tm)) (.cons (.one (.bool true)) x))))),cap2,some ⟨gg,0,none⟩,by rw [TrL.snoc_len],(fun us e=>by cases e),by rw [TrL.snoc_len];omega,Zu ⟨R4,M4,by rw [TrL.snoc_len];exact T4,?_,fun us e=>by cases e⟩⟩
                 rw [I8];exact hrun
               · rw [hR1] at hrun R4
                 have hsf:=Oi hR1
                 refine ⟨.ok a.2,l++[a.1],T.snoc (.cons (.one (.string (nmV (tkS X9 (.ok ts))))) (.cons (.one (.string n)) (.cons (.one (.int .i64 tl)) (.cons (.one (.int .i64 tm)) (.cons (.one (.bool true)) x))))),cap2,some ⟨gg,0,none⟩,by rw [TrL.snoc_len],(fun us e=>?_),by rw [TrL.snoc_len];omega,Zu ⟨R4,M4,by rw [TrL.snoc_len];exact T4,?_,fun us e=>?_⟩⟩
                 · have e:=Except.ok.inj e
                   subst e
                   have:=hsf.2
                   rw [TrL.snoc_len]
                   exact ⟨by omega,by omega⟩
                 · rw [show decide ((T.snoc (.cons (.one (.string (nmV (tkS X9 (.ok ts))))) (.cons (.one (.string n)) (.cons (.one (.int .i64 tl)) (.cons (.one (.int .i64 tm)) (.cons (.one (.bool true)) x)))))).len=0)=false by rw [TrL.snoc_len];simp]
                   exact hrun
                 · have e:=Except.ok.inj e
                   subst e
                   refine ⟨?_,Zr hsf.1 HF.out.2⟩
                   rw [HF.out.1,HXE.out a.1 a.2 (by rw [hR1]),Xa]
       focus
         have hT : ¬ T.len=0:=fun h=>hend (.inl h)
         have t2:((T.len:Int) == 0)=false:=by simp;omega
         have HKX:=Hd (by have hk:=HKX.out;rw [show decide (T.len=0)=false by simp [hT]] at hk;exact hk)
         have hi7:=Hd (ris r (d) (.ok ts) cpB _ RX.out)
         have hc:isS 1 cpB (.ok ts)=true:=by simpa using fun h=>hend (.inr h)
         rw [hc] at hi7
         have HC:=Hd hc
         clear hc h1 hms hT hend
         go_wp2_with fail
         refine hi7.out.mono ?_
         rintro e w6 ⟨rfl,hb6⟩
         have RX':=Hd (RX.out.below hb6)
         have MX':=Hd (MX.out.trans (Z0.of_below (r:=r) hb6))
         have HRR':=Hd (HRR.out.moved (Z0.of_below (r:=r) hb6) HRW.out)
         have hs7:=Hd (Id r d (.ok ts) cpB _ RX'.out)
         clear hb6 c0 c1 c2 c3 RX MX HRR
         have RX:=RX'
         have MX:=MX'
         have HRR:=HRR'
         go_wp2_with fail
         refine hs7.out.mono ?_
         rintro e w7 ⟨rfl,hh7,mm7⟩
         have H7:=Hd hh7
         have M7:=Hd (MX.out.trans mm7)
         have T7:=Hd (HRR.out.moved mm7 HRW.out)
         clear hh7 mm7
         go_wp2_with fail
         go_ret
         have hk:=HKX.out
         rw [Zqi HC.out] at hk
         refine ⟨_,_,_,rfl,⟨T,T7.out.fin (by omega),fun a us e=>?_⟩,?_,M7.out⟩
         · rw [HR.out,← hk] at e
           obtain ⟨a2,e2,rfl⟩:=Jp e
           exact HF.out.1
         · rw [HR.out,← hk,Yc,show Yk (Za (fun ts=>Except.ok ((),ts)) (tkS cpB (.ok ts)))=tkS cpB (.ok ts) from Jn _]
           exact H7.out
variable {nT:Nat}
theorem Yiv {d:Nat} {ts r:List Tok} {x:Wi} (h:Wr d ts=.ok (x,r)):Sfx r ts:=Dm d _ _ _ h
theorem Yg9:(Tryz.prog.info? 72).map (fun i=>(i.zero,i.size,i.bytes))=some (some (.agg #[.int .i64 0,.string ⟨#[]⟩,.string ⟨#[]⟩,.slice none 0 0,.slice none 0 0,.string ⟨#[]⟩,.slice none 0 0]),7,128):=by kernel_rfl
def Zy4 (nT:Nat) (d r:Nat) (S:StP) (w:World) (e:Ending) (w':World):Prop:=∃ (sk:Int) (al nm:ByteArray) (A3:Option Addr) (n3 k3:Nat) (A4:Option Addr) (n4 k4:Nat) (on:ByteArray) (A5:Option Addr) (n5 k5:Nat),e=.returned (.agg #[.int .i64 sk,.string al,.string nm,.slice A3 n3 k3,.slice A4 n4 k4,.string on,.slice A5 n5 k5])∧Ans Gk w w' (Za (Wr d) S) [.int .i64 sk,.string al,.string nm,.slice A3 n3 k3,.slice A4 n4 k4,.string on,.slice A5 n5 k5]∧RP nT w' r d (Yk (Za (Wr d) S))∧Z0 r w w'
def Ynf (nT:Nat) (N:Nat):Prop:=∀ (d:Nat) (S:StP) (r:Nat) (w:World),(∀ ts,S=.ok ts→Ze ts)→(∀ ts,S=.ok ts→ts.length≤N)→d≤16→RP nT w r d S→Calls Tryz.prog 185 #[.pointer (some ⟨r,0,none⟩)] w (Zy4 nT d r S w)
def Zj2 (nT:Nat) (N:Nat):Prop:=∀ (d:Nat) (S:StP) (r:Nat) (w:World),(∀ ts,S=.ok ts→Ze ts)→(∀ ts,S=.ok ts→ts.length≤N)→d≤16→RP nT w r d S→Calls Tryz.prog 104 #[.pointer (some ⟨r,0,none⟩)] w (Yet nT Z7 (X8 d) d r S w)
theorem Ng (N : Nat) (hN:N≤200000) (IH:Ynf nT N):Zj2 nT (N+1):=by
 intro d S r w hG hL hd h
 obtain ⟨i0,hi,hz0,hz1,hz2⟩:=info_parts Yg9
 have HD:=Hd hd
 have HRW:=Hd h.lt
 have HIH:=Hd IH
 have HR:=Hd (Yds d S)
 have HS1:Hid (∀ ts,Li d omB S=.ok ts→Ze ts∧ts.length≤200000∧d < 16∧ts.length≤N):=Hd (fun ts e=>by
  unfold Li at e
  split at e
  · cases e
  · rename_i hn
    obtain ⟨us,e1,s1,l1⟩:=F6 e
    have:=hL us e1
    have hi:isS 1 omB S=true:=by
      cases hc:isS 1 omB S with
      | true=>rfl
      | false =>
        rw [Rb hc] at e
        rcases S with y|us2<;>cases e
    have h16:d ≠ 16:=fun hx=>hn ⟨hi,hx⟩
    exact ⟨Zr s1 (hG us e1),by omega,by omega,by omega⟩)
 obtain ⟨Kc,hKc⟩:∃ K,Pb (Wr (d+1)) Zq7 cmB .nil true (Li d omB S)=K:=⟨_,rfl⟩
 rw [hKc] at HR
 have HKC:=Hd (show Pb (Wr (d+1)) Zq7 cmB .nil (decide (TrL.nil.len=0)) (Li d omB S)=Kc from hKc)
 have HT:=Hd (Yik r d S omB w hd h)
 clear h hd hG hL hKc IH
 go_enter Tryz.func104,Tryz.ntmps104
 go_wp2_with fail
 refine HT.out.mono ?_
 rintro e w2 ⟨rfl,h2,m2⟩
 have H1:=Hd h2
 have M1:=Hd m2
 clear h2 m2 HT
 go_wp2_with fail
 go_loopg [3] 200001 (fun g v wx=>∃ (Sx:StP) (l:Vy) (T:TrL) (co:Nat) (Ao:Option Addr),v=.slice Ao T.len co∧(∀ ts,Sx=.ok ts→ts.length < g∧T.len+ts.length≤200000)∧T.len≤200001∧Aside (RP nT wx r (d+1) Sx∧Z0 r w wx∧RTr 72 7 w.heap.size wx (.slice Ao T.len co) T∧Pb (Wr (d+1)) Zq7 cmB l (decide (T.len=0)) Sx=Kc∧∀ ts,Sx=.ok ts→T=Z7 l∧Ze ts∧d < 16∧ts.length≤N))
 case atStart=>exact ⟨_,.nil,.nil,0,none,rfl,fun ts e=>⟨by have:=(HS1.out ts e).2.1;omega,by show 0+_≤_;have:=(HS1.out ts e).2.1;omega⟩,Nat.zero_le _,Zu ⟨H1.out,M1.out,RTr.start _ _ _ _,HKC.out,fun ts e=>⟨rfl,(HS1.out ts e).1,(HS1.out ts e).2.2⟩⟩⟩
 case round =>
  obtain ⟨Sx,l,T,co,Ao,rfl,hms,hTl,HA⟩:=hrel
  have RX:=Hd HA.out.1
  have MX:=Hd HA.out.2.1
  have HRR:=Hd HA.out.2.2.1
  have HKX:=Hd HA.out.2.2.2.1
  have HFX:=Hd HA.out.2.2.2.2
  clear HA
  obtain ⟨A,n,c,p,dd,x0,h0,h1,h2⟩:=RX.out.cells
  obtain ⟨c0,c1,c2,c3,cz⟩:=Z8 h0
  clear cz h0
  rcases Sx with y|ts
  · obtain ⟨rfl,hy⟩:=h2
    have t1:(x0 == 0)=false:=by simpa using hy
    have hs7:=Hd (Zvn r d (.error x0) cmB _ HD.out RX.out)
    have HKX:=Hd (show (.error x0:Except Int (Vy × List Tok))=Kc by rw [← HKX.out,I8])
    clear hy h1 hms
    go_wp2_with fail
    refine hs7.out.mono ?_
    rintro e w7 ⟨rfl,hh7,mm7⟩
    have H7:=Hd hh7
    have M7:=Hd (MX.out.trans mm7)
    have T7:=Hd (HRR.out.moved mm7 HRW.out)
    clear hh7 mm7
    go_wp2_with fail
    go_ret
    have hk:=HKX.out
    refine ⟨_,_,_,rfl,⟨T,T7.out.fin (by omega),fun a us e=>?_⟩,?_,M7.out⟩
    · rw [HR.out,← hk] at e
      cases e
    · rw [HR.out,← hk]
      exact H7.out
  · obtain ⟨rfl,rfl⟩:=h2
    have HF:=Hd (HFX.out ts rfl)
    obtain ⟨hg1,hg2⟩:=hms ts rfl
    have CV:=fun wy (hr:RP nT wy r (d+1) (.ok ts))=>Hd (HIH.out (d+1) (.ok ts) r wy (fun us e=>by rw [← Except.ok.inj e];exact HF.out.2.1) (fun us e=>by rw [← Except.ok.inj e];exact HF.out.2.2.2) (by have:=HF.out.2.2.1;omega) hr)
    refine Or.elim (Classical.em (T.len=0∨isS 1 cmB (.ok ts)=false)) (fun hgo=>?_) (fun hend=>?_)
    focus
      cases gk with
      | zero=>omega
      | succ g =>
        refine Or.elim (Classical.em (T.len=0)) (fun hT=>?_) (fun hT=>?_)
        focus
         have t2:((T.len:Int) == 0)=true:=by simp;omega
         have HNX:=Hd (by have hk:=HKX.out;rw [Gb (Dm (d+1)) (.inl (by simp [hT]))] at hk;exact hk)
         clear h1 hms hT hgo c0 c1 c2
         rename World=>wx
        rotate_left
        focus
         have t2:((T.len:Int) == 0)=false:=by simp;omega
         have hc:isS 1 cmB (.ok ts)=false:=by rcases hgo with h|h;exact absurd h hT;exact h
         have hi7:=Hd (ris r (d+1) (.ok ts) cmB _ RX.out)
         rw [hc] at hi7
         have HKX:=Hd (by have hk:=HKX.out;rw [show decide (T.len=0)=false by simp [hT]] at hk;exact hk)
         have HNX:=Hd (by have hk:=HKX.out;rw [Gb (Dm (d+1)) (.inr hc)] at hk;exact hk)
         clear hc h1 hms hT hgo
         go_wp2_with fail
         refine hi7.out.mono ?_
         rintro e wx ⟨rfl,hb6⟩
         have RX':=Hd (RX.out.below hb6)
         have MX':=Hd (MX.out.trans (Z0.of_below (r:=r) hb6))
         have HRR':=Hd (HRR.out.moved (Z0.of_below (r:=r) hb6) HRW.out)
         clear hb6 hi7 c0 c1 c2 c3 RX MX HRR
         have RX:=RX'
         have MX:=MX'
         have HRR:=HRR'
        all_goals
         go_wp2_with fail
         refine (CV _ RX.out).out.mono ?_
         rintro e w3 ⟨sk,al,nm,A3,n3,k3,A4,n4,k4,on,A5,n5,k5,rfl,⟨xt,hts,hxe⟩,r3,m3⟩
         have HM3:=Hd m3
         have HTS:=Hd hts
         have HXE:=Hd hxe
         have H3:=Hd r3
         obtain ⟨xs,P,hown,hvals,hP⟩:=HRR.out
         have hrw:=HRW.out
         have hbx:=MX.out.size
         have HRT:=Hd (And.intro hown (And.intro (And.intro hvals hP) (And.intro hbx hrw)))
         have O3:=Hd (Xu hown m3 hrw)
         have s3:=Hd (Nat.le_trans hbx m3.size)
         clear hts hxe r3 m3 hown hvals hP hrw hbx
         go_wp2_with (at_builtin;refine wpList_append_lies _ rfl _ _ 59 rfl w.heap.size 72 i0 (.agg #[.int .i64 0,.string ⟨#[]⟩,.string ⟨#[]⟩,.slice none 0 0,.slice none 0 0,.string ⟨#[]⟩,.slice none 0 0]) 7 128 Tryz.underlying59 hi hz0 hz1 hz2 rfl (by decide) _ T.len xs rfl (Xn O3.out (blw _ _)) _ 1 1 [.int .i64 sk,.string al,.string nm,.slice A3 n3 k3,.slice A4 n4 k4,.string on,.slice A5 n5 k5] rfl rfl (fun j u hj=>World.news_of_block (heap_alloc_new _ _) j u hj) (by intro y hy;simp at hy;rcases hy with rfl|rfl|rfl|rfl|rfl|rfl|rfl<;>rfl) (by decide) (by unfold maxLen;omega) (by omega) (by have:=s3.out;simp;omega) _ rfl ?_;intro gg cap2 w4 hown4 hgrow hat hlt4;have HG4:=Hd hgrow;have HO4:=Hd hown4;have HT4:=Hd hat;clear hgrow hown4 hat)
         have T4:=RTr.app HRT.out.2.2.2 HRT.out.2.2.1 HRT.out.1 HRT.out.2.1.1 HRT.out.2.1.2 HM3.out HTS.out HO4.out HG4.out HT4.out
         have R4:=(H3.out.below (blw _ _)).grown HG4.out (fun c hc=>by have:=(HRT.out.1.lt c hc).1;have:=HRT.out.2.2.2;omega)
         have M4:=I9 (MX.out.trans HM3.out) HG4.out (fun c hc=>(HRT.out.1.lt c hc).1)
         have hrun:=HNX.out
         go_roundg g
         case measure=>omega
         case rel =>
          rcases hR1:Za (Wr (d+1)) (.ok ts) with y|a
          · rw [hR1] at hrun R4
            refine ⟨.error y,l,T.snoc xt,cap2,some ⟨gg,0,none⟩,by rw [TrL.snoc_len],(fun us e=>by cases e),by rw [TrL.snoc_len];omega,Zu ⟨R4,M4,by rw [TrL.snoc_len];exact T4,?_,fun us e=>by cases e⟩⟩
            rw [I8];exact hrun
          · rw [hR1] at hrun R4
            have hsf:=Yiv hR1
            refine ⟨.ok a.2,Zq7 l a.1,T.snoc xt,cap2,some ⟨gg,0,none⟩,by rw [TrL.snoc_len],(fun us e=>?_),by rw [TrL.snoc_len];omega,Zu ⟨R4,M4,by rw [TrL.snoc_len];exact T4,?_,fun us e=>?_⟩⟩
            · have e:=Except.ok.inj e
              subst e
              have:=hsf.2
              rw [TrL.snoc_len]
              exact ⟨by omega,by omega⟩
            · rw [show decide ((T.snoc xt).len=0)=false by rw [TrL.snoc_len];simp]
              exact hrun
            · have e:=Except.ok.inj e
              subst e
              refine ⟨?_,Zr hsf.1 HF.out.2.1,HF.out.2.2.1,by have:=hsf.2;have:=HF.out.2.2.2;omega⟩
              rw [HF.out.1,HXE.out a.1 a.2 (by rw [hR1])]
              exact (Fa l a.1).symm
    focus
      have hT : ¬ T.len=0:=fun h=>hend (.inl h)
      have t2:((T.len:Int) == 0)=false:=by simp;omega
      have HKX:=Hd (by have hk:=HKX.out;rw [show decide (T.len=0)=false by simp [hT]] at hk;exact hk)
      have hi7:=Hd (ris r (d+1) (.ok ts) cmB _ RX.out)
      have hc:isS 1 cmB (.ok ts)=true:=by simpa using fun h=>hend (.inr h)
      rw [hc] at hi7
      have HC:=Hd hc
      clear hc h1 hms hT hend
      go_wp2_with fail
      refine hi7.out.mono ?_
      rintro e w6 ⟨rfl,hb6⟩
      have RX':=Hd (RX.out.below hb6)
      have MX':=Hd (MX.out.trans (Z0.of_below (r:=r) hb6))
      have HRR':=Hd (HRR.out.moved (Z0.of_below (r:=r) hb6) HRW.out)
      have hs7:=Hd (Zvn r d (.ok ts) cmB _ HD.out RX'.out)
      clear hb6 c0 c1 c2 c3 RX MX HRR
      have RX:=RX'
      have MX:=MX'
      have HRR:=HRR'
      go_wp2_with fail
      refine hs7.out.mono ?_
      rintro e w7 ⟨rfl,hh7,mm7⟩
      have H7:=Hd hh7
      have M7:=Hd (MX.out.trans mm7)
      have T7:=Hd (HRR.out.moved mm7 HRW.out)
      clear hh7 mm7
      go_wp2_with fail
      go_ret
      have hk:=HKX.out
      rw [Zqi HC.out] at hk
      refine ⟨_,_,_,rfl,⟨T,T7.out.fin (by omega),fun a us e=>?_⟩,?_,M7.out⟩
      · rw [HR.out,← hk] at e
        obtain ⟨a2,e2,rfl⟩:=Jp e
        exact HF.out.1
      · rw [HR.out,← hk,Yc,show Yk (Za (fun ts=>Except.ok ((),ts)) (tkS cmB (.ok ts)))=tkS cmB (.ok ts) from Jn _]
        exact H7.out
variable {nT:Nat}
abbrev seZ:List Value:=[.int .i64 0,.string ⟨#[]⟩,.string ⟨#[]⟩,.slice none 0 0,.slice none 0 0,.string ⟨#[]⟩,.slice none 0 0]
theorem Yan (d r:Nat) (S:StP) (w:World) (hG:∀ ts,S=.ok ts→Ze ts) (hL:∀ ts,S=.ok ts→ts.length≤200001) (hd:d≤16) (h:RP nT w r d S) (h1:isS 1 Yn S=true) (h2:isS 2 onB (tkS Yn S)=false) (h3:F2 (tkS Yn S)=true):Calls Tryz.prog 185 #[.pointer (some ⟨r,0,none⟩)] w (Zy4 nT d r S w):=by
 have K0:=Hd (Q0.start h #[.int .i64 0,.string ⟨#[]⟩,.string ⟨#[]⟩,.slice none 0 0,.slice none 0 0,.string ⟨#[]⟩,.slice none 0 0] 72)
 have HI:=Hd (ris r d S Yn _ K0.out.rd)
 rw [h1] at HI
 have HR:=Hd (Zvz (d:=d) h1 h2 h3)
 have HG1:Hid (∀ us,tkS Yn S=.ok us→Ze us):=Hd (C7 hG)
 have NS:=Hd (Ib HG1.out)
 have HDR:=fun wy (hr:RP nT wy r d (nmS (tkS Yn S)))=>Hd (Zvb false d r (nmS (tkS Yn S)) wy (Lx HG1.out) (fun us e=>by
   obtain ⟨u1,e1,_,l1⟩:=Un e
   obtain ⟨u2,e2,_,l2⟩:=F6 e1
   have:=hL _ e2
   omega) hd hr)
 have HON:=Hd h2
 have e2:((V6 (tkS Yn S)).1 == 2)=true:=by rw [← Lo];exact h3
 have hfl:∀ (k:Int) (s:ByteArray) (w:World),(Instr.field 70 (.agg #[.int .i64 k,.string s]) 0).run Tryz.prog w=.ok (.int .i64 k) w:=fun _ _ _=>by kernel_rfl
 clear h h1 h2 h3 hG hL hd
 go_enter Tryz.func185,Tryz.ntmps185
 go_wp2_with fail
 refine HI.out.mono ?_
 rintro e w1 ⟨rfl,hb1⟩
 have K1:=Hd (K0.out.next (K0.out.rd.below hb1) (Z0.of_below hb1))
 have TA:=Hd (Id r d S Yn w1 K1.out.rd)
 clear hb1
 go_wp2_with fail
 refine TA.out.mono ?_
 rintro e w2 ⟨rfl,hh2,m2⟩
 have K2:=Hd (K1.out.next hh2 m2)
 have K3:=Hd (Q1.make K2.out #[.int .i64 2,.string ⟨#[]⟩,.string ⟨#[]⟩,.slice none 0 0,.slice none 0 0,.string ⟨#[]⟩,.slice none 0 0] 72)
 have SA:=Hd (O8 r d (tkS Yn S) onB _ K3.out.rd)
 rw [HON.out] at SA
 clear hh2 m2 TA HI
 go_wp2_with fail
 refine SA.out.mono ?_
 rintro e w4 ⟨rfl,hb4⟩
 have K4:=Hd (K3.out.next (K3.out.rd.below hb4) (Z0.of_below hb4))
 have PK:=Hd (Fw r d (tkS Yn S) w4 K4.out.rd)
 clear hb4 SA
 go_wp2_with fail
 refine PK.out.mono ?_
 rintro e w5 ⟨rfl,hb5⟩
 have K5:=Hd (K4.out.next (K4.out.rd.below hb5) (Z0.of_below hb5))
 have NM:=Hd (L2 r d (tkS Yn S) w5 K5.out.rd)
 clear hb5 PK
 go_wp2_with fail
 refine NM.out.mono ?_
 rintro e w6 ⟨rfl,h6,m6⟩
 have K6:=Hd (K5.out.next h6 m6)
 obtain ⟨y0,y1,y2,y3,y4,y5,y6,yz⟩:=svc K6.out.loc
 have yf0:=yz 0
 have yf1:=yz 1
 have yf2:=yz 2
 have yf3:=yz 3
 have yf4:=yz 4
 have yf5:=yz 5
 have yf6:=yz 6
 clear h6 m6 yz NM e2
 go_wp2_with fail
 have K7:Hid (Q1 nT w r (((((w6).setCell ⟨w2.heap.size,0,none⟩ (.int .i64 1)).setCell ⟨w2.heap.size,1,none⟩ (.string ⟨#[]⟩)).setCell ⟨w2.heap.size,2,none⟩ (.string (nmV (tkS Yn S)))).setCell ⟨w2.heap.size,3,none⟩ (.slice none 0 0)) _ w2.heap.size (.cells #[.int .i64 1,.string ⟨#[]⟩,.string (nmV (tkS Yn S)),.slice none 0 0,.slice none 0 0,.string ⟨#[]⟩,.slice none 0 0] 72 (0,0)) (nmS (tkS Yn S)) d):=Hd ((((K6.out.put 0 (.int .i64 1)).put 1 (.string ⟨#[]⟩)).put 2 (.string (nmV (tkS Yn S)))).put 3 (.slice none 0 0))
 have K8:Hid (Q1 nT w r ((((((((w6).setCell ⟨w2.heap.size,0,none⟩ (.int .i64 1)).setCell ⟨w2.heap.size,1,none⟩ (.string ⟨#[]⟩)).setCell ⟨w2.heap.size,2,none⟩ (.string (nmV (tkS Yn S)))).setCell ⟨w2.heap.size,3,none⟩ (.slice none 0 0)).setCell ⟨w2.heap.size,4,none⟩ (.slice none 0 0)).setCell ⟨w2.heap.size,5,none⟩ (.string ⟨#[]⟩)).setCell ⟨w2.heap.size,6,none⟩ (.slice none 0 0)) _ w2.heap.size (.cells #[.int .i64 1,.string ⟨#[]⟩,.string (nmV (tkS Yn S)),.slice none 0 0,.slice none 0 0,.string ⟨#[]⟩,.slice none 0 0] 72 (0,0)) (nmS (tkS Yn S)) d):=Hd (((K7.out.put 4 (.slice none 0 0)).put 5 (.string ⟨#[]⟩)).put 6 (.slice none 0 0))
 have DI:=HDR _ K8.out.rd
 clear y0 y1 y2 y3 y4 y5 y6 yf0 yf1 yf2 yf3 yf4 yf5 yf6 K7 HDR
 refine DI.out.mono ?_
 rintro e w9 ⟨A4,n4,k4,rfl,⟨x,hx,hxe⟩,h9,m9⟩
 have K9:=Hd (K8.out.next h9 m9)
 have O9:=Hd (OvS.of (show TS _ (Zs _ w9) (.cons (.row x) (.cons (.one (.string ⟨#[]⟩)) (.cons (.row .nil) .nil))) [.slice A4 n4 k4,.string ⟨#[]⟩,.slice none 0 0] from TS.row hx (TS.str (Nat.zero_le _) (TS.row (TP.none _ _) (TS.nil _ _)))) K8.out.blt)
 have HX:=Hd hxe
 obtain ⟨y0,y1,y2,y3,y4,y5,y6,yz⟩:=svc K9.out.loc
 have yf4:=yz 4
 have KA:Hid (Q1 nT w r (w9.setCell ⟨w2.heap.size,4,none⟩ (.slice A4 n4 k4)) _ w2.heap.size (.cells #[.int .i64 1,.string ⟨#[]⟩,.string (nmV (tkS Yn S)),.slice none 0 0,.slice A4 n4 k4,.string ⟨#[]⟩,.slice none 0 0] 72 (0,0)) _ d):=Hd (K9.out.put 4 (.slice A4 n4 k4))
 have OA:=Hd (O9.out.put (Nat.le_refl _) (i:=4) (v:=.slice A4 n4 k4))
 obtain ⟨x0,x1,x2,x3,x4,x5,x6,xz⟩:=svc KA.out.loc
 obtain ⟨q0,q1,q2,q3,q4,q5,q6,qz⟩:=svc KA.out.res
 have qf0:=qz 0
 have qf1:=qz 1
 have qf2:=qz 2
 have qf3:=qz 3
 have qf4:=qz 4
 have qf5:=qz 5
 have qf6:=qz 6
 clear hx hxe h9 m9 yz xz qz DI K8 K9
 go_wp2_with fail
 have F:=KA.out.fin (ys:=seZ) [.int .i64 1,.string ⟨#[]⟩,.string (nmV (tkS Yn S)),.slice none 0 0,.slice A4 n4 k4,.string ⟨#[]⟩,.slice none 0 0] rfl
 have OF:=OA.out.fin (w:=w) (Nat.le_of_lt KA.out.bl) [.int .i64 1,.string ⟨#[]⟩,.string (nmV (tkS Yn S)),.slice none 0 0,.slice A4 n4 k4,.string ⟨#[]⟩,.slice none 0 0]
 refine Y8 (cs:=[.int .i64 1,.string ⟨#[]⟩,.string (nmV (tkS Yn S)),.slice none 0 0,.slice A4 n4 k4,.string ⟨#[]⟩,.slice none 0 0]) rfl rfl rfl F.1 Tryz.underlying72 ⟨_,rfl⟩ (by kernel_rfl) ?_
 refine ⟨_,_,_,_,_,_,_,_,_,_,_,_,_,rfl,⟨.cons (.one (.int .i64 1)) (.cons (.one (.string ⟨#[]⟩)) (.cons (.one (.string (nmV (tkS Yn S)))) (.cons (.row .nil) (.cons (.row x) (.cons (.one (.string ⟨#[]⟩)) (.cons (.row .nil) .nil)))))),TS.int (TS.str (Nat.zero_le _) (TS.str NS.out (TS.row (TP.none _ _) OF))),fun a ts e=>?_⟩,?_,F.2.2⟩
 · rw [HR.out] at e
   obtain ⟨v,e2,rfl⟩:=Jp e
   rw [HX.out v ts e2]
   simp only [Gk,Jf,Z7]
   rfl
 · rw [HR.out,Yc]
   exact F.2.1
end Go.Proofs.YtpkmbhnikilihaaGreatDoor
