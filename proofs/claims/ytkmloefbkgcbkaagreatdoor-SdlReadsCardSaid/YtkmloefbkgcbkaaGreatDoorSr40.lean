/- The document's reader: parameters. (gen_prpar.py wrote it.) -/
import Derived.Test.YtkmloefbkgcbkaaGreatDoorSr39
set_option maxRecDepth 100000
set_option maxHeartbeats 8000000
namespace Go.Proofs.YtkmloefbkgcbkaaGreatDoor
open Go.RowKit
variable {nT:Nat}
theorem Yfy:(Tryz.prog.info? 96).map (fun i=>(i.zero,i.size,i.bytes))=some (some (.agg #[.string ⟨#[]⟩,.string ⟨#[]⟩,.int .i64 0,.int .i64 0,.bool false,.int .i64 0,.int .i64 0,.string ⟨#[]⟩,.slice none 0 0,.slice none 0 0]),10,136):=by kernel_rfl
theorem Yb1 (sg:ByteArray) (d r:Nat) (S:StP) (w:World) (hG:∀ ts,S=.ok ts→Zs ts) (hL:∀ ts,S=.ok ts→ts.length≤200000) (hd:d≤16) (h:RP nT w r d S):Calls Tryz.prog 34 #[.pointer (some ⟨r,0,none⟩),.string sg] w (Ygi nT (Z5 Zk) (N7 (W4 d) V8 sg []) d r S w):=by
 obtain ⟨i0,hi,hz0,hz1,hz2⟩:=info_parts Yfy;have HD:=Hd hd;have HRW:=Hd h.lt;have H1:=Hd h;have M1:=Hd (Z0.refl r w);have HS1:Hid (∀ ts,S=.ok ts→Zs ts∧ts.length≤200000∧True):=Hd (fun ts e=>⟨hG ts e,hL ts e,trivial⟩);obtain ⟨Kc,hKc⟩:∃ K,Cc (W4 d) V8 sg [] true S=K:=⟨_,rfl⟩;have HR:Hid (Zb (N7 (W4 d) V8 sg []) S=Kc):=Hd (by rw [← hKc];unfold Cc;rw [if_pos rfl]);have HKC:=Hd (show Cc (W4 d) V8 sg [] (decide (TrL.nil.len=0)) S=Kc from hKc);clear h hd hG hL hKc
 go_enter Tryz.func34,Tryz.ntmps34
 go_wp2_with fail
 go_loopg [5] 200001 (fun g v wx=>∃ (Sx:StP) (l:List Cb) (T:TrL) (co:Nat) (Ao:Option Addr),v=.slice Ao T.len co∧(∀ ts,Sx=.ok ts→ts.length < g∧T.len+ts.length≤200000)∧T.len≤200001∧Aside (RP nT wx r (d) Sx∧Z0 r w wx∧RTr 96 10 w.heap.size wx (.slice Ao T.len co) T∧Cc (W4 d) V8 sg l (decide (T.len=0)) Sx=Kc∧∀ ts,Sx=.ok ts→T=Z5 Zk l∧Zs ts))
 case atStart=>exact ⟨_,[],.nil,0,none,rfl,fun ts e=>⟨by have:=(HS1.out ts e).2.1;omega,by show 0+_≤_;have:=(HS1.out ts e).2.1;omega⟩,Nat.zero_le _,Za ⟨H1.out,M1.out,RTr.start _ _ _ _,HKC.out,fun ts e=>⟨rfl,(HS1.out ts e).1⟩⟩⟩
 case round =>
  obtain ⟨Sx,l,T,co,Ao,rfl,hms,hTl,HA⟩:=hrel;have RX:=Hd HA.out.1;have MX:=Hd HA.out.2.1;have HRR:=Hd HA.out.2.2.1;have HKX:=Hd HA.out.2.2.2.1;have HFX:=Hd HA.out.2.2.2.2;clear HA;obtain ⟨A,n,c,p,dd,x0,h0,h1,h2⟩:=RX.out.cells;obtain ⟨c0,c1,c2,c3,cz⟩:=Zh h0;clear cz h0;rcases Sx with y|ts
  · obtain ⟨rfl,hy⟩:=h2
    have t1:(x0 == 0)=false:=by simpa using hy
    have hs7:=Hd (J1 r d (.error x0) sg _ RX.out);have HKX:=Hd (show (.error x0:Except Int (List Cb × List Tok))=Kc by rw [← HKX.out,Vs]);clear hy h1 hms;go_wp2_with fail
    refine hs7.out.mono ?_;rintro e w7 ⟨rfl,hh7,mm7⟩;have H7:=Hd hh7;have M7:=Hd (MX.out.trans mm7);have T7:=Hd (HRR.out.moved mm7 HRW.out);clear hh7 mm7;go_wp2_with fail
    go_ret
    have hk:=HKX.out;refine ⟨_,_,_,rfl,⟨T,T7.out.fin (by omega),fun a us e=>?_⟩,?_,M7.out⟩
    · rw [HR.out,← hk] at e
      cases e
    · rw [HR.out,← hk]
      exact H7.out
  · obtain ⟨rfl,rfl⟩:=h2
    have HF:=Hd (HFX.out ts rfl);obtain ⟨hg1,hg2⟩:=hms ts rfl;have CV:=fun wy (hr:RP nT wy r (d) (.ok ts))=>Hd (Yps d r (.ok ts) wy (fun us e=>by rw [← Except.ok.inj e];exact HF.out.2) (fun us e=>by rw [← Except.ok.inj e];omega) HD.out hr);refine Or.elim (Classical.em (T.len=0∨isS 1 sg (.ok ts)=false)) (fun hgo=>?_) (fun hend=>?_)
    focus
      cases gk with
      | zero=>omega
      | succ g =>
        refine Or.elim (Classical.em (T.len=0)) (fun hT=>?_) (fun hT=>?_)
        focus
         have t2:((T.len:Int) == 0)=true:=by simp;omega
         have HNX:=Hd (by have hk:=HKX.out;rw [U2 (Yc7 d) (.inl (by simp [hT]))] at hk;exact hk);clear h1 hms hT hgo c0 c1 c2
         rename World=>wx
        rotate_left
        focus
         have t2:((T.len:Int) == 0)=false:=by simp;omega
         have hc:isS 1 sg (.ok ts)=false:=by rcases hgo with h|h;exact absurd h hT;exact h
         have hi7:=Hd (ris r (d) (.ok ts) sg _ RX.out);rw [hc] at hi7;have HKX:=Hd (by have hk:=HKX.out;rw [show decide (T.len=0)=false by simp [hT]] at hk;exact hk);have HNX:=Hd (by have hk:=HKX.out;rw [U2 (Yc7 d) (.inr hc)] at hk;exact hk);clear hc h1 hms hT hgo;go_wp2_with fail
         refine hi7.out.mono ?_;rintro e wx ⟨rfl,hb6⟩;have RX':=Hd (RX.out.below hb6);have MX':=Hd (MX.out.trans (Z0.of_below (r:=r) hb6));have HRR':=Hd (HRR.out.moved (Z0.of_below (r:=r) hb6) HRW.out);clear hb6 hi7 c0 c1 c2 c3 RX MX HRR;have RX:=RX';have MX:=MX';have HRR:=HRR'
        all_goals
         go_wp2_with fail
         refine (CV _ RX.out).out.mono ?_;rintro e w3 ⟨nm,n,tl,tm,hs,vk,vn,vs,A3,n3,k3,A4,n4,k4,rfl,⟨xt,hts,hxe⟩,r3,m3⟩;have HM3:=Hd m3;have HTS:=Hd hts;have HXE:=Hd hxe;have H3:=Hd r3;obtain ⟨xs,P,hown,hvals,hP⟩:=HRR.out;have hrw:=HRW.out;have hbx:=MX.out.size;have HRT:=Hd (And.intro hown (And.intro (And.intro hvals hP) (And.intro hbx hrw)));have O3:=Hd (Yk hown m3 hrw);have s3:=Hd (Nat.le_trans hbx m3.size);clear hts hxe r3 m3 hown hvals hP hrw hbx
         go_wp2_with (at_builtin;refine wpList_append_lies _ rfl _ _ 33 rfl w.heap.size 96 i0 (.agg #[.string ⟨#[]⟩,.string ⟨#[]⟩,.int .i64 0,.int .i64 0,.bool false,.int .i64 0,.int .i64 0,.string ⟨#[]⟩,.slice none 0 0,.slice none 0 0]) 10 136 Tryz.underlying33 hi hz0 hz1 hz2 rfl (by decide) _ T.len xs rfl (Yw O3.out (blw _ _)) _ 1 1 [.string nm,.string n,.int .i64 tl,.int .i64 tm,.bool hs,.int .i64 vk,.int .i64 vn,.string vs,.slice A3 n3 k3,.slice A4 n4 k4] rfl rfl (fun j u hj=>World.news_of_block (heap_alloc_new _ _) j u hj) (by intro y hy;simp at hy;rcases hy with rfl|rfl|rfl|rfl|rfl|rfl|rfl|rfl|rfl|rfl<;>rfl) (by decide) (by unfold maxLen;omega) (by omega) (by have:=s3.out;simp;omega) _ rfl ?_;intro gg cap2 w4 hown4 hgrow hat hlt4;have HG4:=Hd hgrow;have HO4:=Hd hown4;have HT4:=Hd hat;clear hgrow hown4 hat)
         have T4:=RTr.app HRT.out.2.2.2 HRT.out.2.2.1 HRT.out.1 HRT.out.2.1.1 HRT.out.2.1.2 HM3.out HTS.out HO4.out HG4.out HT4.out;have R4:=(H3.out.below (blw _ _)).grown HG4.out (fun c hc=>by have:=(HRT.out.1.lt c hc).1;have:=HRT.out.2.2.2;omega);have M4:=L6 (MX.out.trans HM3.out) HG4.out (fun c hc=>(HRT.out.1.lt c hc).1);have hrun:=HNX.out
         go_roundg g
         case measure=>omega
         case rel =>
          rcases hR1:Zb (W4 d) (.ok ts) with y|a
          · rw [hR1] at hrun R4
            refine ⟨.error y,l,T.snoc xt,cap2,some ⟨gg,0,none⟩,by rw [TrL.snoc_len],(fun us e=>by cases e),by rw [TrL.snoc_len];omega,Za ⟨R4,M4,by rw [TrL.snoc_len];exact T4,?_,fun us e=>by cases e⟩⟩;rw [Vs];exact hrun
          · rw [hR1] at hrun R4
            have hsf:=Li hR1;refine ⟨.ok a.2,l++[a.1],T.snoc xt,cap2,some ⟨gg,0,none⟩,by rw [TrL.snoc_len],(fun us e=>?_),by rw [TrL.snoc_len];omega,Za ⟨R4,M4,by rw [TrL.snoc_len];exact T4,?_,fun us e=>?_⟩⟩
            · have e:=Except.ok.inj e
              subst e;have:=hsf.2;rw [TrL.snoc_len];exact ⟨by omega,by omega⟩
            · rw [show decide ((T.snoc xt).len=0)=false by rw [TrL.snoc_len];simp]
              exact hrun
            · have e:=Except.ok.inj e
              subst e;refine ⟨?_,Jr hsf.1 HF.out.2⟩;rw [HF.out.1,HXE.out a.1 a.2 (by rw [hR1])];exact (show Z5 Zk (l++[a.1])=(Z5 Zk l).snoc (Zk a.1) by rw [Zx]).symm
    focus
      have hT : ¬ T.len=0:=fun h=>hend (.inl h);have t2:((T.len:Int) == 0)=false:=by simp;omega
      have HKX:=Hd (by have hk:=HKX.out;rw [show decide (T.len=0)=false by simp [hT]] at hk;exact hk);have hi7:=Hd (ris r (d) (.ok ts) sg _ RX.out);have hc:isS 1 sg (.ok ts)=true:=by simpa using fun h=>hend (.inr h)
      rw [hc] at hi7;have HC:=Hd hc;clear hc h1 hms hT hend;go_wp2_with fail
      refine hi7.out.mono ?_;rintro e w6 ⟨rfl,hb6⟩;have RX':=Hd (RX.out.below hb6);have MX':=Hd (MX.out.trans (Z0.of_below (r:=r) hb6));have HRR':=Hd (HRR.out.moved (Z0.of_below (r:=r) hb6) HRW.out);have hs7:=Hd (J1 r d (.ok ts) sg _ RX'.out);clear hb6 c0 c1 c2 c3 RX MX HRR;have RX:=RX';have MX:=MX';have HRR:=HRR';go_wp2_with fail
      refine hs7.out.mono ?_;rintro e w7 ⟨rfl,hh7,mm7⟩;have H7:=Hd hh7;have M7:=Hd (MX.out.trans mm7);have T7:=Hd (HRR.out.moved mm7 HRW.out);clear hh7 mm7;go_wp2_with fail
      go_ret
      have hk:=HKX.out;rw [Ah HC.out] at hk;refine ⟨_,_,_,rfl,⟨T,T7.out.fin (by omega),fun a us e=>?_⟩,?_,M7.out⟩
      · rw [HR.out,← hk] at e
        obtain ⟨a2,e2,rfl⟩:=Vg e;exact HF.out.1
      · rw [HR.out,← hk,Y4,show Xb (Zb (fun ts=>Except.ok ((),ts)) (tkS sg (.ok ts)))=tkS sg (.ok ts) from Yf _]
        exact H7.out
variable {nT:Nat}
theorem Yld {s:ByteArray} {S:StP} (hG:∀ ts,S=.ok ts→Zs ts):∀ ts,skS s S=.ok ts→Zs ts:=fun ts e=>by
 unfold skS at e
 split at e
 · exact Uj hG ts e
 · exact hG ts e
theorem Yoc {s:ByteArray} {S:StP} {n:Nat} (hL:∀ ts,S=.ok ts→ts.length≤n):∀ ts,skS s S=.ok ts→ts.length≤n:=fun ts e=>by
 unfold skS at e
 split at e
 · exact Be hL ts e
 · exact hL ts e
theorem Yez (sg:ByteArray) (d r:Nat) (S:StP) (w:World) (hG:∀ ts,S=.ok ts→Zs ts) (hL:∀ ts,S=.ok ts→ts.length≤200000) (h:RP nT w r d S):Calls Tryz.prog 30 #[.pointer (some ⟨r,0,none⟩),.string sg] w (Ygi nT (Z5 Zd) (Xl sg) d r S w):=by
 obtain ⟨i0,hi,hz0,hz1,hz2⟩:=info_parts En;have HRW:=Hd h.lt;have HI:=Hd (ris r d S sg w h);have HG0:=Hd (Yld (s:=sg) hG);have HL0:=Hd (Yoc (s:=sg) hL);have NS0:=Hd (Vh HG0.out);obtain ⟨Kc,hKc⟩:∃ K,nsS sg [nmV (skS sg S)] (nmS (skS sg S))=K:=⟨_,rfl⟩;have HR:Hid (Zb (Xl sg) S=Kc):=Hd (by rw [Yba];exact hKc);have HKC:=Hd hKc;have H:=Hd h;clear hG hL h hKc
 go_enter Tryz.func30,Tryz.ntmps30
 go_wp2_with fail
 refine HI.out.mono ?_;rintro e w1 ⟨rfl,hb1⟩;have R1:=Hd (H.out.below hb1);have M1:=Hd (Z0.of_below (r:=r) hb1);clear hb1 HI;refine Or.elim (Bool.eq_false_or_eq_true (isS 1 sg S)) (fun hc=>?_) (fun hc=>?_)
 focus
  rw [hc];have HT:=Hd (J1 r d S sg w1 R1.out);go_wp2_with fail
  refine HT.out.mono ?_;rintro e w2 ⟨rfl,h2,m2⟩;have RA:Hid (RP nT w2 r d (skS sg S)):=Hd (by unfold skS;rw [if_pos hc];exact h2);have MA:=Hd (M1.out.trans m2);have NI:=Hd (Uu r d (skS sg S) w2 RA.out);clear h2 m2 HT hc R1 M1;go_wp2_with fail
  generalize w2=wa at RA MA NI ⊢
 rotate_left
 focus
  rw [hc];have RA:Hid (RP nT w1 r d (skS sg S)):=Hd (by unfold skS;rw [if_neg (by rw [hc];simp)];exact R1.out);have MA:=M1;have NI:=Hd (Uu r d (skS sg S) w1 RA.out);clear hc R1 M1;go_wp2_with fail
  generalize w1=wa at RA MA NI ⊢
 all_goals
  refine NI.out.mono ?_;rintro e wb ⟨rfl,hb,mb⟩;have RB:=Hd (hb.below (blw wb (.cells #[.string (nmV (skS sg S))] 9)));have MB:=Hd ((MA.out.trans mb).trans (Z0.of_below (blw wb (.cells #[.string (nmV (skS sg S))] 9))));have TB:=Hd (Yb9 (w:=wb) (base:=w.heap.size) (nmV (skS sg S)) NS0.out (MA.out.trans mb).size);clear hb mb NI RA MA;go_wp2_with fail
  go_loopg [5] 200001 (fun g v wx=>∃ (acc:List ByteArray) (Sx:StP),(∀ ts,Sx=.ok ts→ts.length < g∧acc.length+ts.length≤200001)∧acc.length≤200001∧Aside (RTr 9 1 w.heap.size wx v (Z5 Zd acc)∧RP nT wx r d Sx∧Z0 r w wx∧nsS sg acc Sx=Kc∧∀ ts,Sx=.ok ts→Zs ts))
  case atStart=>exact ⟨[nmV (skS sg S)],nmS (skS sg S),fun ts e=>⟨by have:=Gg HL0.out ts e;omega,by have:=Gg HL0.out ts e;simp;omega⟩,by simp,Za ⟨TB.out,RB.out,MB.out,HKC.out,I5 HG0.out⟩⟩
  case round =>
   obtain ⟨acc,Sx,hms,hac,HA⟩:=hrel;have HRR:=Hd HA.out.1;have RX:=Hd HA.out.2.1;have MX:=Hd HA.out.2.2.1;have HKX:=Hd HA.out.2.2.2.1;have HFX:=Hd HA.out.2.2.2.2;clear HA TB RB MB;obtain ⟨Ao,co,rfl⟩:=HRR.out.shape;have hi7:=Hd (ris r d Sx sg _ RX.out)
   cases hc:isS 1 sg Sx with
   | false =>
     rw [hc] at hi7;have hkx:F1 (fun _=>acc) (Zb Nd Sx)=Kc:=by rw [← HKX.out,Ypo hc];rfl
     have HKX:=Hd hkx;clear hc hms hkx;go_wp2_with fail
     refine hi7.out.mono ?_;rintro e w7 ⟨rfl,hb7⟩;have H7:=Hd (RX.out.below hb7);have M7:=Hd (MX.out.trans (Z0.of_below (r:=r) hb7));have T7:=Hd (HRR.out.moved (Z0.of_below (r:=r) hb7) HRW.out);clear hb7;go_wp2_with fail
     go_ret
     refine ⟨_,_,_,rfl,⟨Z5 Zd acc,T7.out.fin (by rw [Zl];omega),fun a us e=>?_⟩,?_,M7.out⟩
     · rw [HR.out,← HKX.out] at e
       obtain ⟨e1,rfl⟩:=Vv e
       rfl
     · rw [HR.out,← HKX.out,Y4,Yf]
       exact H7.out
   | true =>
     rw [hc] at hi7;have HNX:=Hd (by have hk:=HKX.out;rw [Yli hc] at hk;exact hk);have HGT:=Hd (Uj (s:=sg) HFX.out);have NSX:=Hd (Vh HGT.out)
     have HLX:Hid (∀ ts,nmS (tkS sg Sx)=.ok ts→∃ us,Sx=.ok us∧ts.length+2≤us.length):=Hd (fun ts e=>by
       obtain ⟨u1,e1,_,l1⟩:=L7 e;obtain ⟨u2,e2,_,l2⟩:=Cs e1;exact ⟨u2,e2,by omega⟩)
     obtain ⟨t0,ts0,e0,_⟩:=Xr hc;have hg0:=hms _ e0;simp only [List.length_cons] at hg0
     cases gk with
     | zero=>omega
     | succ g =>
       have HMS:=Hd hms;clear hc hms e0;go_wp2_with fail
       refine hi7.out.mono ?_;rintro e w6 ⟨rfl,hb6⟩;have R6:=Hd (RX.out.below hb6);have HT:=Hd (J1 r d Sx sg w6 R6.out);have M6:=Hd (Z0.of_below (r:=r) hb6);clear hb6 hi7;go_wp2_with fail
       refine HT.out.mono ?_;rintro e w2 ⟨rfl,h2,m2⟩;have HN:=Hd (Uu r d _ w2 h2);have M2:=Hd (M6.out.trans m2);clear h2 m2 HT;go_wp2_with fail
       refine HN.out.mono ?_;rintro e w3 ⟨rfl,h3,m3⟩;have R3:=Hd h3;have M3:=Hd (M2.out.trans m3);obtain ⟨nm,hnm⟩:∃ n,nmV (tkS sg Sx)=n:=⟨_,rfl⟩;rw [hnm] at NSX HNX ⊢;have T3:=Hd (TS.str NSX.out (TS.nil _ _):TS w3 (Y7 wr w3) (Zd nm) [.string nm]);have hs3:=M3.out.size;have hs0:=MX.out.size;have hr:=HRW.out;obtain ⟨xs,P,hown,hvals,hP⟩:=HRR.out;have HOW:=Hd (And.intro hown (And.intro hvals hP));have O3:=Hd (Yk hown M3.out hr);clear h3 m3 hown hvals hP HN hnm
       go_wp2_with (at_builtin;refine wpList_append_lies _ rfl _ _ 31 rfl w.heap.size 9 i0 (.string ⟨#[]⟩) 1 16 Tryz.underlying31 hi hz0 hz1 hz2 rfl (by decide) _ (Z5 Zd acc).len xs rfl (Yw O3.out (blw _ _)) _ 1 1 [.string nm] rfl rfl (fun j u hj=>World.news_of_block (heap_alloc_new _ _) j u hj) (by intro y hy;simp at hy;rcases hy with rfl<;>rfl) (by decide) (by unfold maxLen;rw [Zl];omega) (by rw [Zl];omega) (by simp;omega) _ rfl ?_;intro gg cap2 w4 hown4 hgrow hat hlt4;have HG4:=Hd hgrow;have HO4:=Hd hown4;have HT4:=Hd hat;clear hgrow hown4 hat)
       have T4:=RTr.app hr (by omega) HOW.out.1 HOW.out.2.1 HOW.out.2.2 M3.out (TS.keep (fun _ hk=>⟨⟨hk.1,hk.2⟩,rfl⟩) _ _ T3.out) HO4.out HG4.out HT4.out;have R4:=(R3.out.below (blw _ _)).grown HG4.out (fun c hc=>by have:=(HOW.out.1.lt c hc).1;omega);have M4:=L6 (MX.out.trans M3.out) HG4.out (fun c hc=>(HOW.out.1.lt c hc).1)
       go_roundg g
       case measure=>omega
       case rel =>
        refine ⟨acc++[nm],nmS (tkS sg Sx),fun ts e=>?_,by simp;omega,Za ⟨by rw [Zx];exact T4,R4,M4,HNX.out,I5 HGT.out⟩⟩;obtain ⟨us,e1,l1⟩:=HLX.out ts e;have:=HMS.out us e1;exact ⟨by omega,by simp;omega⟩
end Go.Proofs.YtkmloefbkgcbkaaGreatDoor
