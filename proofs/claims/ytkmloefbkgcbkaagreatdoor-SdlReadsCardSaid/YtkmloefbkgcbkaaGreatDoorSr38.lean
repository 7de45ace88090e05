/- The document's reader: arguments. (gen_prser.py wrote it.) -/
import Derived.Test.YtkmloefbkgcbkaaGreatDoorSr37
set_option maxRecDepth 100000
set_option maxHeartbeats 8000000
namespace Go.Proofs.YtkmloefbkgcbkaaGreatDoor
open Go.RowKit
variable {nT:Nat}
def Yqn {α:Type} (enc:α→TrL) (w w':World) (R:Except Int (α × List Tok)) (A:Option Addr) (n c:Nat):Prop:=∃ x:TrL,TP w' (Y7 w w') (.row x) (.slice A n c)∧∀ a ts,R=.ok (a,ts)→x=enc a
theorem L6 {w W W':World} {r:Nat} {k:Option Nat} {o:Obj} (m:Z0 r w W) (hg:(W.alloc o).grownBy W' k) (hk:∀ c,k=some c→w.heap.size≤c):Z0 r w W':=by
 have hsz:(W.alloc o).heap.size=W.heap.size+1:=by simp
 have hs:=m.size;exact ⟨hg.os.trans m.os,hg.tape.trans m.tape,hg.output.trans m.output,by have:=hg.size;omega,fun i hi hn=>((hg.block i (by omega) (fun e=>by have:=hk i e.symm;omega)).trans (Below.heap_alloc _ _ _ (by omega))).trans (m.block i hi hn)⟩
def Ygi (nT:Nat) {α:Type} (enc:α→TrL) (p:Rdr α) (d r:Nat) (S:StP) (w:World) (e:Ending) (w':World):Prop:=∃ (A:Option Addr) (n c:Nat),e=.returned (.slice A n c)∧Yqn enc w w' (Zb p S) A n c∧RP nT w' r d (Xb (Zb p S))∧Z0 r w w'
theorem Yqb (fx:Bool) (d r:Nat) (S:StP) (w:World) (hG:∀ ts,S=.ok ts→Zs ts) (hL:∀ ts,S=.ok ts→ts.length≤200000) (hd:d≤16) (h:RP nT w r d S):Calls Tryz.prog 97 #[.pointer (some ⟨r,0,none⟩),.bool fx] w (Ygi nT F2 (U8 fx d) d r S w):=by
 obtain ⟨i0,hi,hz0,hz1,hz2⟩:=info_parts Aw;have H:=Hd h;have HD:=Hd hd;have HRW:=Hd h.lt;have HI:=Hd (ris r d S opB w h)
 cases hb:isS 1 opB S with
 | false =>
   rw [hb] at HI;have HR:=Hd (Yn7 (fx:=fx) (d:=d) hb);clear h hb hd hG hL
   go_enter Tryz.func97,Tryz.ntmps97
   go_wp2_with fail
   refine HI.out.mono ?_;rintro e w1 ⟨rfl,hb1⟩;have B1:=Hd hb1;clear hb1;go_wp2_with fail
   go_ret
   refine ⟨none,0,0,rfl,⟨.nil,TP.none _ _,fun a ts e=>?_⟩,?_,Z0.of_below B1.out⟩
   · rw [HR.out] at e
     obtain ⟨_,_,rfl⟩:=Vg e
     rfl
   · rw [HR.out,Y4,show Xb (Zb (fun ts=>Except.ok ((),ts)) S)=S from Yf _]
     exact H.out.below B1.out
 | true =>
   rw [hb] at HI;have HR:=Hd (Yjp (fx:=fx) (d:=d) hb)
   have HS1:Hid (∀ ts,tkS opB S=.ok ts→Zs ts∧ts.length≤200000∧True):=Hd (fun ts e=>by
     obtain ⟨us,e1,s1,l1⟩:=Cs e;have:=hL us e1;exact ⟨Jr s1 (hG us e1),by omega,trivial⟩)
   obtain ⟨Kc,hKc⟩:∃ K,Cc (Co fx d) Zzi cpB .nil true (tkS opB S)=K:=⟨_,rfl⟩;rw [hKc] at HR;have HKC:=Hd (show Cc (Co fx d) Zzi cpB .nil (decide (TrL.nil.len=0)) (tkS opB S)=Kc from hKc);have HT:=fun wx (hb:Below w.heap.size w wx)=>Hd (J1 r d S opB wx (H.out.below hb));clear h hb hd hG hL hKc
   go_enter Tryz.func97,Tryz.ntmps97
   go_wp2_with fail
   refine HI.out.mono ?_;rintro e w1 ⟨rfl,hb1⟩;have B1:=Hd hb1;clear hb1;go_wp2_with fail
   refine (HT _ B1.out).out.mono ?_;rintro e w2 ⟨rfl,h2,m2⟩;have H1:=Hd h2;have M1:=Hd ((Z0.of_below (r:=r) B1.out).trans m2);clear h2 m2 HT HI;go_wp2_with fail
   go_loopg [5] 200001 (fun g v wx=>∃ (Sx:StP) (l:VM) (T:TrL) (co:Nat) (Ao:Option Addr),v=.slice Ao T.len co∧(∀ ts,Sx=.ok ts→ts.length < g∧T.len+ts.length≤200000)∧T.len≤200001∧Aside (RP nT wx r (d) Sx∧Z0 r w wx∧RTr 151 6 w.heap.size wx (.slice Ao T.len co) T∧Cc (Co fx d) Zzi cpB l (decide (T.len=0)) Sx=Kc∧∀ ts,Sx=.ok ts→T=F2 l∧Zs ts))
   case atStart=>exact ⟨_,.nil,.nil,0,none,rfl,fun ts e=>⟨by have:=(HS1.out ts e).2.1;omega,by show 0+_≤_;have:=(HS1.out ts e).2.1;omega⟩,Nat.zero_le _,Za ⟨H1.out,M1.out,RTr.start _ _ _ _,HKC.out,fun ts e=>⟨rfl,(HS1.out ts e).1⟩⟩⟩
   case round =>
     obtain ⟨Sx,l,T,co,Ao,rfl,hms,hTl,HA⟩:=hrel;have RX:=Hd HA.out.1;have MX:=Hd HA.out.2.1;have HRR:=Hd HA.out.2.2.1;have HKX:=Hd HA.out.2.2.2.1;have HFX:=Hd HA.out.2.2.2.2;clear HA;obtain ⟨A,n,c,p,dd,x0,h0,h1,h2⟩:=RX.out.cells;obtain ⟨c0,c1,c2,c3,cz⟩:=Zh h0;clear cz h0;rcases Sx with y|ts
     · obtain ⟨rfl,hy⟩:=h2
       have t1:(x0 == 0)=false:=by simpa using hy
       have hs7:=Hd (J1 r d (.error x0) cpB _ RX.out);have HKX:=Hd (show (.error x0:Except Int (VM × List Tok))=Kc by rw [← HKX.out,Vs]);clear hy h1 hms;go_wp2_with fail
       refine hs7.out.mono ?_;rintro e w7 ⟨rfl,hh7,mm7⟩;have H7:=Hd hh7;have M7:=Hd (MX.out.trans mm7);have T7:=Hd (HRR.out.moved mm7 HRW.out);clear hh7 mm7;go_wp2_with fail
       go_ret
       have hk:=HKX.out;refine ⟨_,_,_,rfl,⟨T,T7.out.fin (by omega),fun a us e=>?_⟩,?_,M7.out⟩
       · rw [HR.out,← hk] at e
         cases e
       · rw [HR.out,← hk]
         exact H7.out
     · obtain ⟨rfl,rfl⟩:=h2
       have HF:=Hd (HFX.out ts rfl);obtain ⟨hg1,hg2⟩:=hms ts rfl;have CV:=fun wy (hr:RP nT wy r (d) (.ok ts))=>Hd ((Yp1 200000).2 fx d (.ok ts) r wy (fun us e=>by rw [← Except.ok.inj e];exact HF.out.2) (fun us e=>by rw [← Except.ok.inj e];omega) HD.out hr);refine Or.elim (Classical.em (T.len=0∨isS 1 cpB (.ok ts)=false)) (fun hgo=>?_) (fun hend=>?_)
       focus
         cases gk with
         | zero=>omega
         | succ g =>
           refine Or.elim (Classical.em (T.len=0)) (fun hT=>?_) (fun hT=>?_)
           focus
            have t2:((T.len:Int) == 0)=true:=by simp;omega
            have HNX:=Hd (by have hk:=HKX.out;rw [U2 (Qs fx d) (.inl (by simp [hT]))] at hk;exact hk);clear h1 hms hT hgo c0 c1 c2
            rename World=>wx
           rotate_left
           focus
            have t2:((T.len:Int) == 0)=false:=by simp;omega
            have hc:isS 1 cpB (.ok ts)=false:=by rcases hgo with h|h;exact absurd h hT;exact h
            have hi7:=Hd (ris r (d) (.ok ts) cpB _ RX.out);rw [hc] at hi7;have HKX:=Hd (by have hk:=HKX.out;rw [show decide (T.len=0)=false by simp [hT]] at hk;exact hk);have HNX:=Hd (by have hk:=HKX.out;rw [U2 (Qs fx d) (.inr hc)] at hk;exact hk);clear hc h1 hms hT hgo;go_wp2_with fail
            refine hi7.out.mono ?_;rintro e wx ⟨rfl,hb6⟩;have RX':=Hd (RX.out.below hb6);have MX':=Hd (MX.out.trans (Z0.of_below (r:=r) hb6));have HRR':=Hd (HRR.out.moved (Z0.of_below (r:=r) hb6) HRW.out);clear hb6 hi7 c0 c1 c2 c3 RX MX HRR;have RX:=RX';have MX:=MX';have HRR:=HRR'
           all_goals
            go_wp2_with fail
            refine (CV _ RX.out).out.mono ?_;rintro e w3 ⟨nm,vk,vn,vs,A3,n3,k3,A4,n4,k4,rfl,⟨xt,hts,hxe⟩,r3,m3⟩;have HM3:=Hd m3;have HTS:=Hd hts;have HXE:=Hd hxe;have H3:=Hd r3;obtain ⟨xs,P,hown,hvals,hP⟩:=HRR.out;have hrw:=HRW.out;have hbx:=MX.out.size;have HRT:=Hd (And.intro hown (And.intro (And.intro hvals hP) (And.intro hbx hrw)));have O3:=Hd (Yk hown m3 hrw);have s3:=Hd (Nat.le_trans hbx m3.size);clear hts hxe r3 m3 hown hvals hP hrw hbx
            go_wp2_with (at_builtin;refine wpList_append_lies _ rfl _ _ 92 rfl w.heap.size 151 i0 (.agg #[.string ⟨#[]⟩,.int .i64 0,.int .i64 0,.string ⟨#[]⟩,.slice none 0 0,.slice none 0 0]) 6 96 Tryz.underlying92 hi hz0 hz1 hz2 rfl (by decide) _ T.len xs rfl (Yw O3.out (blw _ _)) _ 1 1 [.string nm,.int .i64 vk,.int .i64 vn,.string vs,.slice A3 n3 k3,.slice A4 n4 k4] rfl rfl (fun j u hj=>World.news_of_block (heap_alloc_new _ _) j u hj) (by intro y hy;simp at hy;rcases hy with rfl|rfl|rfl|rfl|rfl|rfl<;>rfl) (by decide) (by unfold maxLen;omega) (by omega) (by have:=s3.out;simp;omega) _ rfl ?_;intro gg cap2 w4 hown4 hgrow hat hlt4;have HG4:=Hd hgrow;have HO4:=Hd hown4;have HT4:=Hd hat;clear hgrow hown4 hat)
            have T4:=RTr.app HRT.out.2.2.2 HRT.out.2.2.1 HRT.out.1 HRT.out.2.1.1 HRT.out.2.1.2 HM3.out HTS.out HO4.out HG4.out HT4.out;have R4:=(H3.out.below (blw _ _)).grown HG4.out (fun c hc=>by have:=(HRT.out.1.lt c hc).1;have:=HRT.out.2.2.2;omega);have M4:=L6 (MX.out.trans HM3.out) HG4.out (fun c hc=>(HRT.out.1.lt c hc).1);have hrun:=HNX.out
            go_roundg g
            case measure=>omega
            case rel =>
             rcases hR1:Zb (Co fx d) (.ok ts) with y|a
             · rw [hR1] at hrun R4
               refine ⟨.error y,l,T.snoc xt,cap2,some ⟨gg,0,none⟩,by rw [TrL.snoc_len],(fun us e=>by cases e),by rw [TrL.snoc_len];omega,Za ⟨R4,M4,by rw [TrL.snoc_len];exact T4,?_,fun us e=>by cases e⟩⟩;rw [Vs];exact hrun
             · rw [hR1] at hrun R4
               have hsf:=B8 hR1;refine ⟨.ok a.2,Zzi l a.1,T.snoc xt,cap2,some ⟨gg,0,none⟩,by rw [TrL.snoc_len],(fun us e=>?_),by rw [TrL.snoc_len];omega,Za ⟨R4,M4,by rw [TrL.snoc_len];exact T4,?_,fun us e=>?_⟩⟩
               · have e:=Except.ok.inj e
                 subst e;have:=hsf.2;rw [TrL.snoc_len];exact ⟨by omega,by omega⟩
               · rw [show decide ((T.snoc xt).len=0)=false by rw [TrL.snoc_len];simp]
                 exact hrun
               · have e:=Except.ok.inj e
                 subst e;refine ⟨?_,Jr hsf.1 HF.out.2⟩;rw [HF.out.1,HXE.out a.1 a.2 (by rw [hR1])];exact (Fg l a.1.1 a.1.2).symm
       focus
         have hT : ¬ T.len=0:=fun h=>hend (.inl h);have t2:((T.len:Int) == 0)=false:=by simp;omega
         have HKX:=Hd (by have hk:=HKX.out;rw [show decide (T.len=0)=false by simp [hT]] at hk;exact hk);have hi7:=Hd (ris r (d) (.ok ts) cpB _ RX.out);have hc:isS 1 cpB (.ok ts)=true:=by simpa using fun h=>hend (.inr h)
         rw [hc] at hi7;have HC:=Hd hc;clear hc h1 hms hT hend;go_wp2_with fail
         refine hi7.out.mono ?_;rintro e w6 ⟨rfl,hb6⟩;have RX':=Hd (RX.out.below hb6);have MX':=Hd (MX.out.trans (Z0.of_below (r:=r) hb6));have HRR':=Hd (HRR.out.moved (Z0.of_below (r:=r) hb6) HRW.out);have hs7:=Hd (J1 r d (.ok ts) cpB _ RX'.out);clear hb6 c0 c1 c2 c3 RX MX HRR;have RX:=RX';have MX:=MX';have HRR:=HRR';go_wp2_with fail
         refine hs7.out.mono ?_;rintro e w7 ⟨rfl,hh7,mm7⟩;have H7:=Hd hh7;have M7:=Hd (MX.out.trans mm7);have T7:=Hd (HRR.out.moved mm7 HRW.out);clear hh7 mm7;go_wp2_with fail
         go_ret
         have hk:=HKX.out;rw [Ah HC.out] at hk;refine ⟨_,_,_,rfl,⟨T,T7.out.fin (by omega),fun a us e=>?_⟩,?_,M7.out⟩
         · rw [HR.out,← hk] at e
           obtain ⟨a2,e2,rfl⟩:=Vg e;exact HF.out.1
         · rw [HR.out,← hk,Y4,show Xb (Zb (fun ts=>Except.ok ((),ts)) (tkS cpB (.ok ts)))=tkS cpB (.ok ts) from Yf _]
           exact H7.out
variable {nT:Nat}
theorem Yi8:(Tryz.prog.info? 131).map (fun i=>(i.zero,i.size,i.bytes))=some (some (.agg #[.string ⟨#[]⟩,.slice none 0 0]),2,40):=by kernel_rfl
theorem I5 {S:StP} (hG:∀ ts,S=.ok ts→Zs ts):∀ ts,nmS S=.ok ts→Zs ts:=fun ts e=>by
 obtain ⟨us,e1,s1,_⟩:=L7 e;exact Jr s1 (hG us e1)
theorem Uj {s:ByteArray} {S:StP} (hG:∀ ts,S=.ok ts→Zs ts):∀ ts,tkS s S=.ok ts→Zs ts:=fun ts e=>by
 obtain ⟨us,e1,s1,_⟩:=Cs e;exact Jr s1 (hG us e1)
theorem Yqf (fx:Bool) (d r:Nat) (S:StP) (w:World) (hG:∀ ts,S=.ok ts→Zs ts) (hL:∀ ts,S=.ok ts→ts.length≤200000) (hd:d≤16) (h:RP nT w r d S):Calls Tryz.prog 68 #[.pointer (some ⟨r,0,none⟩),.bool fx] w (Ygi nT (Z5 Dd) (Dh fx d) d r S w):=by
 obtain ⟨i0,hi,hz0,hz1,hz2⟩:=info_parts Yi8;have HD:=Hd hd;have HRW:=Hd h.lt;have H1:=Hd h;have HGL:=Hd (And.intro hG hL);obtain ⟨Kc,hKc⟩:∃ K,dsS fx d [] S=K:=⟨_,rfl⟩;have HKC:=Hd hKc;have HR:Hid (Zb (Dh fx d) S=Kc):=Hd (by rw [Yfv];exact hKc);clear h hG hL hd hKc
 go_enter Tryz.func68,Tryz.ntmps68
 go_wp2_with fail
 go_loopg [5] 200001 (fun g v wx=>∃ (Sx:StP) (l:List Wg) (T:TrL) (co:Nat) (Ao:Option Addr),v=.slice Ao T.len co∧(∀ ts,Sx=.ok ts→ts.length < g∧T.len+ts.length≤200000)∧T.len≤200001∧Aside (RP nT wx r d Sx∧Z0 r w wx∧RTr 131 2 w.heap.size wx (.slice Ao T.len co) T∧dsS fx d l Sx=Kc∧∀ ts,Sx=.ok ts→T=Z5 Dd l∧Zs ts))
 case atStart=>exact ⟨_,[],.nil,0,none,rfl,fun ts e=>⟨by have:=HGL.out.2 ts e;omega,by show 0+_≤_;have:=HGL.out.2 ts e;omega⟩,Nat.zero_le _,Za ⟨H1.out,Z0.refl _ _,RTr.start _ _ _ _,HKC.out,fun ts e=>⟨rfl,HGL.out.1 ts e⟩⟩⟩
 case round =>
  obtain ⟨Sx,l,T,co,Ao,rfl,hms,hTl,HA⟩:=hrel;have RX:=Hd HA.out.1;have MX:=Hd HA.out.2.1;have HRR:=Hd HA.out.2.2.1;have HKX:=Hd HA.out.2.2.2.1;have HFX:=Hd HA.out.2.2.2.2;clear HA;have hi7:=Hd (ris r d Sx Zzg _ RX.out)
  cases hc:isS 1 Zzg Sx with
  | false =>
    rw [hc] at hi7;have hkx:F1 (fun _=>l) (Zb Nd Sx)=Kc:=by rw [← HKX.out,Yox hc];rfl
    have HKX:=Hd hkx;clear hc hms hkx;go_wp2_with fail
    refine hi7.out.mono ?_;rintro e w7 ⟨rfl,hb7⟩;have H7:=Hd (RX.out.below hb7);have M7:=Hd (MX.out.trans (Z0.of_below (r:=r) hb7));have T7:=Hd (HRR.out.moved (Z0.of_below (r:=r) hb7) HRW.out);clear hb7;go_wp2_with fail
    go_ret
    refine ⟨_,_,_,rfl,⟨T,T7.out.fin (by omega),fun a us e=>?_⟩,?_,M7.out⟩
    · rw [HR.out,← HKX.out] at e
      obtain ⟨e1,rfl⟩:=Vv e;exact (HFX.out us e1).1
    · rw [HR.out,← HKX.out,Y4,Yf]
      exact H7.out
  | true =>
    rw [hc] at hi7;obtain ⟨t,ts,rfl,e9⟩:=Xr hc;obtain ⟨hg1,hg2⟩:=hms _ rfl;have HF:=Hd (HFX.out _ rfl);have HNX:=Hd (by have hk:=HKX.out;rw [Yl8 hc] at hk;exact hk);rw [e9] at HNX;have E9:=Hd e9;have HGT:=Hd (show Zs ts from fun u hu=>HF.out.2 u (List.mem_cons_of_mem _ hu));have HNS:=Hd (Vh (S:=.ok ts) (fun us e=>by rw [← Except.ok.inj e];exact HGT.out))
    have CV:=fun wy (hr:RP nT wy r d (nmS (.ok ts)))=>Hd (Yqb fx d r (nmS (.ok ts)) wy (I5 (fun us e=>by rw [← Except.ok.inj e];exact HGT.out)) (fun us e=>by
      obtain ⟨vs,e1,_,l1⟩:=L7 e;have e1:=Except.ok.inj e1;subst e1;simp at hg2
      omega) HD.out hr)
    have hlen:(t :: ts).length=ts.length+1:=rfl;rw [hlen] at hg1 hg2
    cases gk with
    | zero=>omega
    | succ g =>
      clear hc hms e9 hlen;go_wp2_with fail
      refine hi7.out.mono ?_;rintro e wa ⟨rfl,hba⟩;have RA:=Hd (RX.out.below hba);have MA:=Hd (Z0.of_below (r:=r) hba);have TA:=Hd (J1 r d _ Zzg _ RA.out);clear hba;go_wp2_with fail
      refine TA.out.mono ?_;rintro e wb ⟨rfl,hb,mb⟩;rw [E9.out] at hb;have NB:=Hd (Uu r d _ _ hb);have MB:=Hd (MA.out.trans mb);clear hb mb TA;go_wp2_with fail
      refine NB.out.mono ?_;rintro e wc ⟨rfl,hcx,mc⟩;have MC:=Hd (MB.out.trans mc);have RC:=Hd (hcx.below (blw wc (.cells #[.string (nmV (.ok ts)),.slice none 0 0] 131)));have YC:=Hd (heap_alloc_last wc (.cells #[.string (nmV (.ok ts)),.slice none 0 0] 131));have MC2:=Hd (MC.out.trans (Z0.of_below (r:=r) (blw wc (.cells #[.string (nmV (.ok ts)),.slice none 0 0] 131))));have lc:r < wc.heap.size:=hcx.lt;have AC:=CV _ RC.out;clear hcx mc NB;go_wp2_with fail
      refine AC.out.mono ?_;rintro e wd ⟨A2,n2,c2,rfl,⟨x,htx,hx⟩,hd2,md⟩;have YD:=Hd (md.keep YC.out (Nat.ne_of_gt lc));have ld:=(Array.getElem?_eq_some_iff.1 YD.out).1;obtain ⟨y0,y1,yz⟩:=ptc YD.out;have yf1:=yz 1;have YE:=Hd (heap_setCell_same _ _ 1 _ _ (.slice A2 n2 c2) YD.out);have HX:=Hd hx;have HTX:=Hd htx;have RE:=Hd (hd2.set lc (i:=1) (v:=.slice A2 n2 c2));have MD:=Hd (MC2.out.trans md);obtain ⟨z0,z1,zz⟩:=ptc YE.out;clear yz zz htx hx hd2 md AC;obtain ⟨xs,P,hown,hvals,hP⟩:=HRR.out;have hrw:=HRW.out;have hbx:=MX.out.size;have hms:=MC.out.size;have hsc:(wc.alloc (.cells #[.string (nmV (.ok ts)),.slice none 0 0] 131)).heap.size=wc.heap.size+1:=by simp
      have HME:=Hd (show Z0 r wr (wd.setCell ⟨wc.heap.size,1,none⟩ (.slice A2 n2 c2)) from MD.out.put hms);have HRT:=Hd (And.intro hown (And.intro (And.intro hvals hP) (And.intro hbx hrw)));have O3:=Hd (Yk hown HME.out hrw);have s3:=Hd (Nat.le_trans hbx HME.out.size);have HTS:Hid (TS (wd.setCell ⟨wc.heap.size,1,none⟩ (.slice A2 n2 c2)) (fun b=>wr.heap.size≤b∧b < (wd.setCell ⟨wc.heap.size,1,none⟩ (.slice A2 n2 c2)).heap.size) (.cons (.one (.string (nmV (.ok ts)))) (.cons (.row x) .nil)) [.string (nmV (.ok ts)),.slice A2 n2 c2]):=Hd (TS.str HNS.out (TS.row (TP.keep (fun k hk=>⟨⟨by have:=hk.1;rw [hsc] at this;omega,by have:=hk.2;simpa [World.setCell] using this⟩,Below.heap_setCell _ _ _ _ (show k ≠ wc.heap.size by have:=hk.1;rw [hsc] at this;omega)⟩) _ _ HTX.out) (TS.nil _ _)));clear hown hvals hP hrw hbx hms hsc;have hsz:(wd.setCell ⟨wc.heap.size,1,none⟩ (.slice A2 n2 c2)).heap.size=wd.heap.size:=by simp [World.setCell]
      go_wp2_with (at_builtin;refine wpList_append_lies _ rfl _ _ 71 rfl w.heap.size 131 i0 (.agg #[.string ⟨#[]⟩,.slice none 0 0]) 2 40 Tryz.underlying71 hi hz0 hz1 hz2 rfl (by decide) _ T.len xs rfl (Yw O3.out (blw _ _)) _ 1 1 [.string (nmV (.ok ts)),.slice A2 n2 c2] rfl rfl (fun j u hj=>by rw [← hsz];exact World.news_of_block (heap_alloc_new _ _) j u hj) (by intro y hy;simp at hy;rcases hy with rfl|rfl<;>rfl) (by decide) (by unfold maxLen;omega) (by omega) (Nat.le_trans s3.out (by simp)) _ rfl ?_;intro gg cap2 w4 hown4 hgrow hat hlt4;have HG4:=Hd hgrow;have HO4:=Hd hown4;have HT4:=Hd hat;clear hgrow hown4 hat)
      have T4:=RTr.app HRT.out.2.2.2 HRT.out.2.2.1 HRT.out.1 HRT.out.2.1.1 HRT.out.2.1.2 HME.out HTS.out HO4.out HG4.out HT4.out;have R4:=(RE.out.below (blw _ _)).grown HG4.out (fun c hc=>by have:=(HRT.out.1.lt c hc).1;have:=HRT.out.2.2.2;omega);have M4:=L6 (MX.out.trans HME.out) HG4.out (fun c hc=>(HRT.out.1.lt c hc).1);have hrun:=HNX.out
      go_roundg g
      case measure=>omega
      case rel =>
       rcases hR1:Zb (U8 fx d) (nmS (.ok ts)) with y|a
       · rw [hR1] at hrun R4
         exact ⟨.error y,l,T.snoc (.cons (.one (.string (nmV (.ok ts)))) (.cons (.row x) .nil)),cap2,some ⟨gg,0,none⟩,by rw [TrL.snoc_len],(fun us e=>by cases e),by rw [TrL.snoc_len];omega,Za ⟨R4,M4,by rw [TrL.snoc_len];exact T4,hrun,fun us e=>by cases e⟩⟩
       · rw [hR1] at hrun R4
         obtain ⟨vs,e1,hp⟩:=Cu hR1;obtain ⟨us,e2,s2,l2⟩:=L7 e1;have e2:=Except.ok.inj e2;subst e2;have s3:=Yj1 fx d vs a.1 a.2 hp;have s4:=s3.trans s2;have l4:a.2.length < ts.length:=Nat.lt_of_le_of_lt s3.length_le l2;refine ⟨.ok a.2,l++[(nmV (.ok ts),a.1)],T.snoc (.cons (.one (.string (nmV (.ok ts)))) (.cons (.row x) .nil)),cap2,some ⟨gg,0,none⟩,by rw [TrL.snoc_len],(fun us e=>?_),by rw [TrL.snoc_len];omega,Za ⟨R4,M4,by rw [TrL.snoc_len];exact T4,hrun,fun us e=>?_⟩⟩
         · have e:=Except.ok.inj e
           subst e;rw [TrL.snoc_len];exact ⟨by omega,by omega⟩
         · have e:=Except.ok.inj e
           subst e;refine ⟨?_,Jr s4 HGT.out⟩;rw [HF.out.1,HX.out a.1 a.2 (by rw [hR1]),Zx]
           rfl
def Yqd {α:Type} (p:Rdr α):Rdr α:=fun ts=>p (U1 ts)
theorem Yc7 (d:Nat):Str (W4 d):=fun _ _ _ h=>Li h
theorem Tq (d:Nat):Suf (Jj d):=fun _ _ _ h=>Zz9 h
theorem Zx7 (d:Nat):Str (fdR d):=fun _ _ _ h=>Nu h
theorem Yoi:enR=Yqd (nmR (fun n=>if Nc n=true then Ga 2 else Gk n) (Ga 2)):=by
 funext ts
 unfold enR Yqd nmR
 cases Zg (U1 ts) with
 | none=>rfl
 | some q =>
   obtain ⟨n,r⟩:=q;simp only
   split<;>rfl
theorem Ykc:Str enR:=fun _ _ _ h=>Zz1 h
theorem Bd {s:ByteArray} : ∀ (f f':Nat) (acc:List ByteArray) (ts:List Tok),ts.length < f→ts.length < f'→Vk s f acc ts=Vk s f' acc ts
 | 0,_,_,_,h,_=>absurd h (Nat.not_lt_zero _)
 | _+1,0,_,_,_,h=>absurd h (Nat.not_lt_zero _)
 | f + 1,f'+1,acc,ts,h,h'=>by
   rw [Vk,Vk]
   split
   · rename_i ha
     cases hn:Zg ts.tail with
     | none=>rfl
     | some q =>
       obtain ⟨n,r⟩:=q;have h1:=(Zt hn).2;have h2:=(Zn ha).2;exact Bd f f' _ r (by omega) (by omega)
   · rfl
def Q9 (s:ByteArray) (acc:List ByteArray):Rdr (List ByteArray):=fun ts=>Vk s (ts.length+1) acc ts
theorem Tl (s:ByteArray) (acc:List ByteArray):Q9 s acc=ifR 1 s (nmR (fun n=>Q9 s (acc++[n])) (Ga 2)) (Gk acc):=by
 funext ts
 unfold ifR nmR Q9;rw [Vk]
 split
 · rename_i ha
   cases hn:Zg ts.tail with
   | none=>rfl
   | some q =>
     obtain ⟨n,r⟩:=q;have h1:=(Zt hn).2;have h2:=(Zn ha).2;exact Bd _ _ _ r (by omega) (by omega)
 · rfl
theorem Yjk:Zw=ifR 2 Gl (Xl Yi1) (Gk []):=by funext ts;rfl
theorem Yco (s:ByteArray):Suf (Xl s):=fun _ _ _ h=>(Ee h).1
theorem Sw:Suf Zw:=by rw [Yjk];exact Ypk (Yco _) (Yom _)
def Zyc (d:Nat) (k:Int) (n:ByteArray):Rdr Ih:=
 if k=1∨k=2 then Ym Zw fun fs=>ifR 1 omB (Ym (N7 (fdR d) V8 cmB []) fun l=>Gk ⟨k,n,fs,l,[],[]⟩) (Ga 2)
 else if k=3 then ifR 1 eqB (Ym (Xl Yk2) fun l=>Gk ⟨k,n,[],[],l,[]⟩) (Ga 2)
 else if k=4 then ifR 1 omB (Ym (N7 enR V8 cmB []) fun l=>Gk ⟨k,n,[],[],l,[]⟩) (Ga 2)
 else ifR 1 omB (Ym (N7 (W4 d) V8 cmB []) fun l=>Gk ⟨k,n,[],[],[],l⟩) (Ga 2)
theorem Ru (d:Nat) (k:Int) (n:ByteArray):Uk d k n=Zyc d k n:=by
 funext ts
 unfold Uk Zyc
 split
 · unfold Ym ifR
   cases Zw ts with
   | error x=>rfl
   | ok q =>
     obtain ⟨fs,r⟩:=q;simp only
     split
     · unfold N7
       cases I7 (fdR d) V8 cmB (r.tail.length+1) [] r.tail<;>rfl
     · rfl
 · split
   · unfold ifR Ym
     split
     · cases Xl Yk2 ts.tail<;>rfl
     · rfl
   · split
     · unfold ifR Ym N7
       split
       · cases I7 enR V8 cmB (ts.tail.length+1) [] ts.tail<;>rfl
       · rfl
     · unfold ifR Ym N7
       split
       · cases I7 (W4 d) V8 cmB (ts.tail.length+1) [] ts.tail<;>rfl
       · rfl
theorem Ydl (d:Nat):Ut d=nmR (fun w=>if Yo w=0 then Ga 2 else nmR (Uk d (Yo w)) (Ga 2)) (Ga 2):=by
 funext ts
 unfold Ut nmR
 cases Zg ts with
 | none=>rfl
 | some q =>
   obtain ⟨w,r⟩:=q;simp only
   split<;>rfl
def Yo6 (ts:List Tok):Prop:=∀ t,t ∈ ts→(t.1 == 2 && (t.2.toList == Xg.toList))=false
theorem Yo6.at {ts:List Tok} (h:Yo6 ts):atB 2 Xg ts=false:=by
 cases ts with
 | nil=>rfl
 | cons t ts=>exact h t (List.mem_cons_self ..)
end Go.Proofs.YtkmloefbkgcbkaaGreatDoor
