/- The landed series: string. -/
import Derived.Test.YtkmloefbkgcbkaaGreatDoorSr20
set_option maxRecDepth 100000
set_option maxHeartbeats 8000000
namespace Go.Proofs.YtkmloefbkgcbkaaGreatDoor
open Go.RowKit
def Yb0 (w:World) (P:Nat→Prop) (a:ByteArray) (v:Value):Prop:=v=.string a∧TS w P (Zd a) [.string a]
theorem Yge {w:World} {P:Nat→Prop} {a:ByteArray} {v:Value} (h:Yb0 w P a v):∃ s0:ByteArray,v=.string s0∧TS w P (Zd a) [.string s0]:=⟨a,h.1,h.2⟩
theorem Ygr:(Tryz.prog.info? 9).map (fun i=>(i.zero,i.size,i.bytes))=some (some (.string ⟨#[]⟩),1,16):=by kernel_rfl
theorem Zy7 (en:ByteArray) (one:List Tok→Except Int ((ByteArray) × List Tok)) (hS:∀ ts a r,one ts=.ok (a,r)→Sfx r ts) (r d:Nat) (ts:List Tok) (w:World)
  (HC:∀ tq wx,Yn tq→tq.length≤ts.length→Rd wx r tq d→KRd r wx→NoX r wx→Calls Tryz.prog 54 #[.pointer (some ⟨r,0,none⟩)] wx (Ca r d wx Yb0 (one tq)))
  (hG:Yn ts) (hR:Rd w r ts d) (hK:KRd r w) (hX:NoX r w):Calls Tryz.prog 53 #[.pointer (some ⟨r,0,none⟩),.string en,.func (.func 54) #[] #[]] w (Ca r d w (Yfq (Z5 Zd)) (I7 one V8 en (ts.length+1) [] ts)):=by
 refine cQE (fun Q hQ=>?_);obtain ⟨ti0,hi,hz0,hz1,hz2⟩:=info_parts Ygr;obtain ⟨RES,hRES⟩:∃ RES,I7 one V8 en (ts.length+1) [] ts=RES:=⟨_,rfl⟩;rw [hRES] at hQ;have HQ:=Hd hQ;have HRES:=Hd hRES;have HCC:=Hd HC;have HSS:=Hd hS;have hr:=hR.lt;have hlen:ts.length≤200000:=by obtain ⟨_,_,_,_,h,_⟩:=hR;exact h
 have B0:=Hd (And.intro hR (And.intro hK (And.intro hG hX)));clear hQ hRES HC hS hG hR hK hX
 go_enter Tryz.func53,Tryz.ntmps53
 go_wp2_with fail
 go_loopg [7] (ts.length+1) (fun g out wx=>∃ (acc:List ByteArray) (tq:List Tok),tq.length+1≤g∧tq.length≤ts.length∧((Z5 Zd) acc).len+tq.length≤200000∧Aside (RTr 9 1 w.heap.size wx out ((Z5 Zd) acc)∧Z0 r w wx∧Rd wx r tq d∧KRd r wx∧Yn tq∧NoX r wx∧I7 one V8 en g acc tq=RES))
 case atStart=>exact ⟨[],ts,Nat.le_refl _,Nat.le_refl _,by rw [show ((Z5 Zd) []).len=0 from rfl];omega,Za ⟨(RTr.start _ _ _ _),Z0.refl _ _,B0.out.1,B0.out.2.1,B0.out.2.2.1,B0.out.2.2.2,HRES.out⟩⟩
 case round =>
  obtain ⟨acc,tq,hq,hql,hal,HA⟩:=hrel;obtain ⟨hrt,hmx,hrx,hkx,hgx,hxx,hex⟩:=HA.out;obtain ⟨xs,P,hown,hvals,hP⟩:=hrt;obtain ⟨Ao,co,rfl⟩:=Xi hown;have KX:=Hd (And.intro hmx (And.intro hrx (And.intro hkx hxx)));have GX:=Hd hgx;have EX:=Hd hex;have HRT:=Hd (And.intro hown (And.intro hvals hP));clear HA hmx hrx hkx hgx hxx hex hown hvals hP
  cases gk with
  | zero=>omega
  | succ g =>
    go_wp2_with fail
    refine (HCC.out tq _ GX.out hql KX.out.2.1 KX.out.2.2.1 KX.out.2.2.2).mono ?_;intro e w2 h
    cases hv:one tq with
    | error x =>
      rw [hv] at h;obtain ⟨rfl,m⟩:=Ji h;exact ⟨rfl,HQ.out _ _ (per (by rw [← EX.out,I7,hv]) (KX.out.1.trans m))⟩
    | ok p =>
      obtain ⟨a,tq2⟩:=p;rw [hv] at h;obtain ⟨⟨v,rfl,hl⟩,r2,m2⟩:=Uv h;obtain ⟨s0,rfl,hts⟩:=Yge hl;have hsf:=HSS.out _ _ _ hv;have hsl:=hsf.2;have G2:=Hd (GX.out.sub hsf.1);have M2:=Hd m2;have R2:=Hd r2;have T2:=Hd hts;have hs2:=m2.size;have hs0:=KX.out.1.size;have O2:=Hd (Yk HRT.out.1 m2 hr);have HV:=Hd hv;clear h hv hl hts r2 m2 hsf
      go_wp2_with (at_builtin;refine wpList_append_lies _ rfl _ _ 31 rfl w.heap.size 9 ti0 (.string ⟨#[]⟩) 1 16 Tryz.underlying31 hi hz0 hz1 hz2 rfl (by decide) _ ((Z5 Zd) acc).len xs rfl (Yw O2.out (blw _ _)) _ 1 1 [.string s0] rfl rfl (fun j u hj=>World.news_of_block (heap_alloc_new _ _) j u hj) (by intro y hy;simp at hy;rcases hy with rfl<;>rfl) (by decide) (by unfold maxLen;omega) (by omega) (by simp;omega) _ rfl ?_;intro gg cap2 w4 hown4 hgrow hat hlt4;have HG4:=Hd hgrow;have HO4:=Hd hown4;have HT4:=Hd hat;clear hgrow hown4 hat)
      have hgk:=J0 HG4.out (r:=r) (fun b hb=>by have:=(HRT.out.1.lt b hb).1;omega);have R4:=Hd (hgk.1 _ _ (R2.out.below (blw _ _)));have D4:=Hd (hgk.2 ((KX.out.2.2.1.moved M2.out).moved (Z0.of_below (blw _ _))))
      have M4:=Hd (show Z0 r w w4 from by
        have m:=(KX.out.1.trans M2.out).trans (Z0.of_below (blw _ (.cells #[.string s0] 9)));exact ⟨HG4.out.os.trans m.os,HG4.out.tape.trans m.tape,HG4.out.output.trans m.output,Nat.le_trans m.size HG4.out.size,fun k hk hn=>(HG4.out.block k (Nat.lt_of_lt_of_le hk m.size) (fun e=>by have:=(HRT.out.1.lt k e.symm).1;omega)).trans (m.block k hk hn)⟩)
      have X4:=Hd (show NoX r w4 from trivial);have T4:=Hd (RTr.app hr (by omega) HRT.out.1 HRT.out.2.1 HRT.out.2.2 M2.out (TS.keep (fun _ hk=>⟨⟨hk.1,hk.2⟩,rfl⟩) _ _ T2.out) HO4.out HG4.out HT4.out);clear hgk;go_wp2_with fail
      refine (Yg r tq2 d 1 en _ R4.out).mono ?_;intro e w5 h5;have hE:=EX.out;rw [I7,HV.out] at hE;simp only at hE
      cases hb:atB 1 en tq2 with
      | true =>
        rw [hb] at h5 hE;obtain ⟨rfl,r5,m5⟩:=h5;rw [Jq hb] at r5;simp only [if_true] at hE;have T5:=Hd ((T4.out.moved m5 hr).fin (by rw [TrL.snoc_len];omega));have R5:=Hd r5;have M5:=Hd (M4.out.trans m5);have E5:=Hd hE;clear r5 m5 hE hb;go_wp2_with fail
        exact HQ.out _ _ (Yy E5.out.symm (show TP _ _ (.row ((Z5 Zd) (V8 acc a))) _ by rw [show (Z5 Zd) (V8 acc a)=((Z5 Zd) acc).snoc (Zd a) from Zx _ _ _];exact T5.out) R5.out M5.out)
      | false =>
        rw [hb] at h5 hE;obtain ⟨rfl,r5,m5⟩:=h5;rw [Uh hb] at r5;simp only [Bool.false_eq_true,if_false] at hE;have T5:=Hd (T4.out.moved m5 hr);have R5:=Hd r5;have M5:=Hd (M4.out.trans m5);have X5:=Hd (X4.out.moved m5);have D5:=Hd (D4.out.moved m5);have E5:=Hd hE;clear r5 m5 hE hb;go_wp2_with fail
        go_roundg g
        case measure=>omega
        case rel=>exact ⟨V8 acc a,tq2,by omega,by omega,by rw [show (Z5 Zd) (V8 acc a)=((Z5 Zd) acc).snoc (Zd a) from Zx _ _ _,TrL.snoc_len];omega,Za ⟨by rw [show (Z5 Zd) (V8 acc a)=((Z5 Zd) acc).snoc (Zd a) from Zx _ _ _];exact T5.out,M5.out,R5.out,D5.out,G2.out,X5.out,E5.out⟩⟩
theorem Rd.kindtail {_w:World} {_r _d:Nat} {ts:List Tok} (h:Zyh 5 ts=true):∃ t us,ts=t :: us∧U1 ts=us:=by
 cases ts with
 | nil=>cases h
 | cons t us=>exact ⟨t,us,rfl,by unfold U1;rw [if_pos h];rfl⟩
theorem Ry (r:Nat) (ts:List Tok) (d:Nat) (w:World) (h:Rd w r ts d):Calls Tryz.prog 22 #[.pointer (some ⟨r,0,none⟩)] w fun e w'=>e=.returned (.tuple #[])∧Rd w' r (U1 ts) d∧Z0 r w w':=by
 have HK:=Hd (Ya1 5 r ts d w h);have HH:=Hd h
 cases hb:Zyh 5 ts with
 | false =>
   rw [hb] at HK;have HE:=Hd (show U1 ts=ts by unfold U1;rw [if_neg (by rw [hb];simp)]);clear h hb
   go_enter Tryz.func22,Tryz.ntmps22
   go_wp2_with fail
   refine HK.out.mono ?_;rintro e w1 ⟨rfl,rfl⟩;go_wp2_with fail
   go_end0
   exact ⟨rfl,by rw [HE.out];exact HH.out,Z0.refl _ _⟩
 | true =>
   rw [hb] at HK;obtain ⟨t,us,rfl,e2⟩:=Rd.kindtail (_w:=w) (_r:=r) (_d:=d) hb;have HE:=Hd e2;have HT:=Hd (Wc r t us d w h);clear h hb e2 HH
   go_enter Tryz.func22,Tryz.ntmps22
   go_wp2_with fail
   refine HK.out.mono ?_;rintro e w1 ⟨rfl,rfl⟩;go_wp2_with fail
   refine HT.out.mono ?_;rintro e w2 ⟨rfl,rr,mm⟩;have RR:=Hd (And.intro rr mm);clear rr mm;go_wp2_with fail
   go_end0
   exact ⟨rfl,by rw [HE.out];exact RR.out.1,RR.out.2⟩
theorem Ps (d:Nat) (ts:List Tok) (r:Nat) (w:World) (hG:Yn ts) (hd:d≤16) (hR:Rd w r ts d) (hK:KRd r w):Calls Tryz.prog 56 #[.pointer (some ⟨r,0,none⟩)] w (Ca r d w (N9 Zk) (W4 d ts)):=by
 refine cQE (fun Q hQ=>?_);have HQ:=Hd hQ;have K0:=Hd (S0.start hR hK #[.string ⟨#[]⟩,.string ⟨#[]⟩,.int .i64 0,.int .i64 0,.bool false,.int .i64 0,.int .i64 0,.string ⟨#[]⟩,.slice none 0 0,.slice none 0 0] 96);have G2:=Hd (hG.sub (Vd ts));have HD:=Hd hd;clear hQ hR hK hG hd
 go_enter Tryz.func56,Tryz.ntmps56
 go_wp2_with fail
 refine (Ry r ts d _ K0.out.rd).mono ?_;rintro e w1 ⟨rfl,rr,mm⟩;have K4:=Hd (K0.out.next rr mm);clear rr mm;go_wp2_with fail
 refine (Yb4 d (U1 ts) r _ G2.out HD.out K4.out.rd K4.out.k).mono ?_;intro e w2 h
 cases hv:V0 d (U1 ts) with
 | error x =>
   rw [hv] at h;obtain ⟨rfl,m⟩:=Ji h;exact ⟨rfl,HQ.out _ _ (per (by rw [W4,hv]) (K4.out.mv.trans m))⟩
 | ok p =>
   obtain ⟨a,ts1⟩:=p;rw [hv] at h;obtain ⟨⟨v,rfl,hl⟩,r1,m1⟩:=Uv h;obtain ⟨s0,s1,i2,i3,b4,i5,i6,s7,A8,n8,k8,A9,n9,k9,rfl,hts⟩:=Zxu hl;have K5:=Hd (K4.out.next r1 m1);have T1:=Hd (OvS.of hts K4.out.lt);obtain ⟨y0,y1,y2,y3,y4,y5,y6,y7,y8,y9,yz⟩:=X9 K5.out.res;have z0:=yz 0;have z1:=yz 1;have z2:=yz 2;have z3:=yz 3;have z4:=yz 4;have z5:=yz 5;have z6:=yz 6;have z7:=yz 7;have z8:=yz 8;have z9:=yz 9;have HV:=Hd hv;clear r1 m1 hl hts h hv yz;go_wp2_with fail
   obtain ⟨f1,f2,f3⟩:=S0.fin (ys:=[.string ⟨#[]⟩,.string ⟨#[]⟩,.int .i64 0,.int .i64 0,.bool false,.int .i64 0,.int .i64 0,.string ⟨#[]⟩,.slice none 0 0,.slice none 0 0]) K5.out [.string s0,.string s1,.int .i64 i2,.int .i64 i3,.bool b4,.int .i64 i5,.int .i64 i6,.string s7,.slice A8 n8 k8,.slice A9 n9 k9] rfl;have FT:=T1.out.fin (w:=w) (Nat.le_refl _) [.string s0,.string s1,.int .i64 i2,.int .i64 i3,.bool b4,.int .i64 i5,.int .i64 i6,.string s7,.slice A8 n8 k8,.slice A9 n9 k9];have FP:=HQ.out _ _ (Yy (a:=a) (by rw [W4,HV.out]) ⟨_,rfl,FT⟩ f2 f3);exact Y6 rfl rfl rfl f1 Tryz.underlying96 ⟨_,rfl⟩ (by kernel_rfl) FP
theorem Zyd (d:Nat) (ts:List Tok) (r:Nat) (w:World) (hG:Yn ts) (hd:d≤16) (hR:Rd w r ts d) (hK:KRd r w):Calls Tryz.prog 52 #[.pointer (some ⟨r,0,none⟩)] w (Ca r d w (N9 Ze) (fdR d ts)):=by
 refine cQE (fun Q hQ=>?_);have HQ:=Hd hQ;have K0:=Hd (S0.start hR hK #[.string ⟨#[]⟩,.slice none 0 0,.string ⟨#[]⟩,.int .i64 0,.int .i64 0,.slice none 0 0] 73);have G0:=Hd hG;clear hQ hR hK hG
 go_enter Tryz.func52,Tryz.ntmps52
 go_wp2_with fail
 refine (Ry r (ts) d _ K0.out.rd).mono ?_;rintro e w1 ⟨rfl,rr,mm⟩;have G2:=Hd (G0.out.sub (Vd (ts)));have K3:=Hd (K0.out.next rr mm);clear rr mm;go_wp2_with fail
 refine (Yr r ((U1 (ts))) d _ K3.out.rd).mono ?_;intro e w4 h
 cases hn:Zg ((U1 (ts))) with
 | none =>
   rw [hn] at h;obtain ⟨rfl,m⟩:=h;exact ⟨rfl,HQ.out _ _ (per (by simp only [fdR,hn]) (K3.out.mv.trans m))⟩
 | some p =>
   obtain ⟨n,tn4⟩:=p;rw [hn] at h;obtain ⟨rfl,rr,mm⟩:=h;have Nn:=Hd (G2.out.name hn);have G5:=Hd (G2.out.sub (Zt hn).1);have E6:=Hd hn;have K7:=Hd (K3.out.next rr mm);clear rr mm hn;go_wp2_with fail
   have K8:=Hd (S1.make K7.out #[.string n,.slice none 0 0,.string ⟨#[]⟩,.int .i64 0,.int .i64 0,.slice none 0 0] 73);refine (Yg r tn4 d 1 opB _ K8.out.rd).mono ?_;intro e w9 h;refine Or.elim (Bool.eq_false_or_eq_true (atB 1 opB tn4)).symm (fun hb=>?_) (fun hb=>?_)
   focus
    rw [hb] at h;obtain ⟨rfl,rr,mm⟩:=h;rw [Uh hb] at rr;have E10:=Hd hb;have K11:=Hd (K8.out.next rr mm);clear rr mm hb;go_wp2_with fail
    have HE:Hid (Jj d tn4=.ok ([],tn4)):=Hd (by simp only [Jj,E10.out,if_false,Bool.false_eq_true]);obtain ⟨VS,hVS⟩:∃ zz:List Cb,[]=zz:=⟨_,rfl⟩;obtain ⟨T2,hT2⟩:∃ zz:List Tok,tn4=zz:=⟨_,rfl⟩;obtain ⟨AS,nS,kS,hSV⟩:∃ A n k,.slice none 0 0=Value.slice A n k:=⟨_,_,_,rfl⟩;have HE:Hid (Jj d tn4=.ok (VS,T2)):=by rw [← hVS,← hT2];exact HE
    have KJ2:Hid (S1 w r w9 (.cells #[.string ⟨#[]⟩,.slice none 0 0,.string ⟨#[]⟩,.int .i64 0,.int .i64 0,.slice none 0 0] 73 (0,0)) (w4.heap.size) (.cells #[.string n,.slice AS nS kS,.string ⟨#[]⟩,.int .i64 0,.int .i64 0,.slice none 0 0] 73 (0,0)) T2 d):=by rw [← hT2,← hSV];exact K11
    have GJ2:Hid (Yn T2):=by rw [← hT2];exact G5
    have OVJ:Hid (Ov (w4.heap.size) w9 (.row (Z5 Zk VS)) (.slice AS nS kS)):=by rw [← hVS,← hSV];exact Hd (TP.none _ _)
    clear hVS hT2 hSV K11;generalize w9=wk at KJ2 OVJ ⊢
   rotate_left
   focus
    rw [hb] at h;obtain ⟨rfl,rr,mm⟩:=h;rw [Jq hb] at rr;have G12:=Hd (G5.out.sub (Zn hb).1);have E13:=Hd hb;have K14:=Hd (K8.out.next rr mm);clear rr mm hb;go_wp2_with fail
    refine (Pi cpB (W4 d) (fun _ _ _ h=>Li h) r d (tn4.tail) _ (fun tq wx g _ hx hk _=>Ps d tq r wx g hd hx hk) G12.out K14.out.rd K14.out.k trivial).mono ?_;intro e w15 h;rcases hv:I7 (W4 d) V8 cpB (((tn4.tail)).length+1) [] (tn4.tail) with x|p
    · skip
      rw [hv] at h;obtain ⟨rfl,m⟩:=Ji h;exact ⟨rfl,HQ.out _ _ (per (by simp only [fdR,Jj,E6.out,E13.out,hv,if_true]) (K14.out.mv.trans m))⟩
    obtain ⟨ps,tp15⟩:=p;rw [hv] at h;obtain ⟨⟨v,rfl,hl⟩,rr,mm⟩:=Uv h;obtain ⟨A1,kA1,rfl,hts⟩:=Us hl;have G16:=Hd (G12.out.sub (F0 (fun _ _ _ h=>Li h) _ _ _ _ _ hv).1);have K17:=Hd (K14.out.next rr mm);have O18:=Hd (Ov.of hts K14.out.blt);have E19:=Hd hv;clear rr mm hv hl hts h;obtain ⟨y0,y1,y2,y3,y4,y5,yz⟩:=Zr K17.out.loc;have yf0:=yz 0;have yf1:=yz 1;have yf2:=yz 2;have yf3:=yz 3;have yf4:=yz 4;have yf5:=yz 5;clear yz;go_wp2_with fail
    clear y0 y1 y2 y3 y4 y5 yf0 yf1 yf2 yf3 yf4 yf5;have K20:Hid (S1 w r (w15.setCell ⟨w4.heap.size,1,none⟩ (.slice A1 (Z5 Zk ps).len kA1)) _ (w4.heap.size) (.cells #[.string n,.slice A1 (Z5 Zk ps).len kA1,.string ⟨#[]⟩,.int .i64 0,.int .i64 0,.slice none 0 0] 73 (0,0)) _ d):=Hd (K17.out.put 1 (.slice A1 (Z5 Zk ps).len kA1));have O21:Hid (Ov (w4.heap.size) (w15.setCell ⟨w4.heap.size,1,none⟩ (.slice A1 (Z5 Zk ps).len kA1)) _ _):=Hd (O18.out.put (i:=1) (v:=.slice A1 (Z5 Zk ps).len kA1) (Nat.le_refl _));generalize (w15.setCell ⟨w4.heap.size,1,none⟩ (.slice A1 (Z5 Zk ps).len kA1))=wz22 at K20 O21 ⊢;have HE:Hid (Jj d tn4=.ok (ps,tp15)):=Hd (by simp only [Jj,E13.out,E19.out,if_true]);obtain ⟨VS,hVS⟩:∃ zz:List Cb,ps=zz:=⟨_,rfl⟩;obtain ⟨T2,hT2⟩:∃ zz:List Tok,tp15=zz:=⟨_,rfl⟩;obtain ⟨AS,nS,kS,hSV⟩:∃ A n k,.slice A1 (Z5 Zk ps).len kA1=Value.slice A n k:=⟨_,_,_,rfl⟩;have HE:Hid (Jj d tn4=.ok (VS,T2)):=by rw [← hVS,← hT2];exact HE
    have KJ2:Hid (S1 w r wz22 (.cells #[.string ⟨#[]⟩,.slice none 0 0,.string ⟨#[]⟩,.int .i64 0,.int .i64 0,.slice none 0 0] 73 (0,0)) (w4.heap.size) (.cells #[.string n,.slice AS nS kS,.string ⟨#[]⟩,.int .i64 0,.int .i64 0,.slice none 0 0] 73 (0,0)) T2 d):=by rw [← hT2,← hSV];exact K20
    have GJ2:Hid (Yn T2):=by rw [← hT2];exact G16
    have OVJ:Hid (Ov (w4.heap.size) wz22 (.row (Z5 Zk VS)) (.slice AS nS kS)):=by rw [← hVS,← hSV];exact O21
    clear hVS hT2 hSV K20;generalize wz22=wk at KJ2 OVJ ⊢
   all_goals
    refine (Xa r T2 d 1 Xj _ KJ2.out.rd).mono ?_;intro e w301 h
    cases hb:atB 1 Xj T2 with
    | false =>
      rw [hb] at h;simp only [Bool.false_eq_true,if_false] at h;obtain ⟨rfl,m⟩:=h;exact ⟨rfl,HQ.out _ _ (per (by simp only [fdR,E6.out,HE.out,hb,if_false,Bool.false_eq_true]) (KJ2.out.mv.trans m))⟩
    | true =>
      rw [hb] at h;simp only [if_true] at h;obtain ⟨rfl,rr,mm⟩:=h;have G302:=Hd (GJ2.out.sub (Zn hb).1);have E303:=Hd hb;have K304:=Hd (KJ2.out.next rr mm);have O305:=Hd (OVJ.out.next mm KJ2.out.rb);clear rr mm hb;go_wp2_with fail
      refine (Bu T2.tail G302.out.2 r d _ K304.out.rd).mono ?_;intro e w306 h
      cases hv:Zj 4 (T2.tail) with
      | error x =>
        rw [hv] at h;obtain ⟨rfl,m⟩:=id h;exact ⟨rfl,HQ.out _ _ (per (by simp only [fdR,E6.out,HE.out,E303.out,hv,if_true]) (K304.out.mv.trans m))⟩
      | ok p =>
        obtain ⟨⟨tn,tl,tm⟩,tp306⟩:=p;rw [hv] at h;obtain ⟨rfl,rr,mm⟩:=h;have NT:=Hd (Em 4 _ G302.out.2 _ _ _ _ hv).2.1;have G307:=Hd (G302.out.sub (B9 4 _ _ _ hv).1);have K308:=Hd (K304.out.next rr mm);have O309:=Hd (O305.out.next mm K304.out.rb);have E310:=Hd hv;clear rr mm hv;obtain ⟨y0,y1,y2,y3,y4,y5,yz⟩:=Zr K308.out.loc;have yf0:=yz 0;have yf1:=yz 1;have yf2:=yz 2;have yf3:=yz 3;have yf4:=yz 4;have yf5:=yz 5;clear yz;go_wp2_with fail
        clear y0 y1 y2 y3 y4 y5 yf0 yf1 yf2 yf3 yf4 yf5;have K311:Hid (S1 w r (((w306.setCell ⟨w4.heap.size,2,none⟩ (.string tn)).setCell ⟨w4.heap.size,3,none⟩ (.int .i64 (tl:Int))).setCell ⟨w4.heap.size,4,none⟩ (.int .i64 (tm:Int))) _ (w4.heap.size) (.cells #[.string n,.slice AS nS kS,.string tn,.int .i64 (tl:Int),.int .i64 (tm:Int),.slice none 0 0] 73 (0,0)) _ d):=Hd (((K308.out.put 2 (.string tn)).put 3 (.int .i64 (tl:Int))).put 4 (.int .i64 (tm:Int)));have O312:Hid (Ov (w4.heap.size) (((w306.setCell ⟨w4.heap.size,2,none⟩ (.string tn)).setCell ⟨w4.heap.size,3,none⟩ (.int .i64 (tl:Int))).setCell ⟨w4.heap.size,4,none⟩ (.int .i64 (tm:Int))) _ _):=Hd (((O309.out.put (i:=2) (v:=.string tn) (Nat.le_refl _)).put (i:=3) (v:=.int .i64 (tl:Int)) (Nat.le_refl _)).put (i:=4) (v:=.int .i64 (tm:Int)) (Nat.le_refl _));generalize (((w306.setCell ⟨w4.heap.size,2,none⟩ (.string tn)).setCell ⟨w4.heap.size,3,none⟩ (.int .i64 (tl:Int))).setCell ⟨w4.heap.size,4,none⟩ (.int .i64 (tm:Int)))=wz313 at K311 O312 ⊢;refine (Yji true d (tp306) r _ G307.out hd K311.out.rd K311.out.k).mono ?_;intro e w314 h
        cases hv:Dh true d (tp306) with
        | error x =>
          rw [hv] at h;obtain ⟨rfl,m⟩:=Ji h;exact ⟨rfl,HQ.out _ _ (per (by simp only [fdR,E6.out,HE.out,E303.out,E310.out,hv,if_true]) (K311.out.mv.trans m))⟩
        | ok p =>
          obtain ⟨ds,tp314⟩:=p;rw [hv] at h;obtain ⟨⟨v,rfl,hl⟩,rr,mm⟩:=Uv h;obtain ⟨A5,kA5,rfl,hts⟩:=Us hl;have G315:=Hd (G307.out.sub (Zxb hv));have K316:=Hd (K311.out.next rr mm);have O317:=Hd (O312.out.next mm K311.out.rb);have O318:=Hd (Ov.of hts K311.out.blt);have E319:=Hd hv;clear rr mm hv hl hts h;obtain ⟨y0,y1,y2,y3,y4,y5,yz⟩:=Zr K316.out.loc;have yf0:=yz 0;have yf1:=yz 1;have yf2:=yz 2;have yf3:=yz 3;have yf4:=yz 4;have yf5:=yz 5;clear yz
          go_upto_region 8 with fail
          clear y0 y1 y2 y3 y4 y5 yf0 yf1 yf2 yf3 yf4 yf5;have K320:Hid (S1 w r (w314.setCell ⟨w4.heap.size,5,none⟩ (.slice A5 (Z5 Dd ds).len kA5)) _ (w4.heap.size) (.cells #[.string n,.slice AS nS kS,.string tn,.int .i64 (tl:Int),.int .i64 (tm:Int),.slice A5 (Z5 Dd ds).len kA5] 73 (0,0)) _ d):=Hd (K316.out.put 5 (.slice A5 (Z5 Dd ds).len kA5));have O321:Hid (Ov (w4.heap.size) (w314.setCell ⟨w4.heap.size,5,none⟩ (.slice A5 (Z5 Dd ds).len kA5)) _ _):=Hd (O317.out.put (i:=5) (v:=.slice A5 (Z5 Dd ds).len kA5) (Nat.le_refl _));have O322:Hid (Ov (w4.heap.size) (w314.setCell ⟨w4.heap.size,5,none⟩ (.slice A5 (Z5 Dd ds).len kA5)) _ _):=Hd (O318.out.put (i:=5) (v:=.slice A5 (Z5 Dd ds).len kA5) (Nat.le_refl _));generalize (w314.setCell ⟨w4.heap.size,5,none⟩ (.slice A5 (Z5 Dd ds).len kA5))=wz323 at K320 O321 O322 ⊢;obtain ⟨y0,y1,y2,y3,y4,y5,yz⟩:=Zr K320.out.loc;have yf0:=yz 0;have yf1:=yz 1;have yf2:=yz 2;have yf3:=yz 3;have yf4:=yz 4;have yf5:=yz 5;clear yz;obtain ⟨x0,x1,x2,x3,x4,x5,xz⟩:=Zr K320.out.res;have xf0:=xz 0;have xf1:=xz 1;have xf2:=xz 2;have xf3:=xz 3;have xf4:=xz 4;have xf5:=xz 5;clear xz;go_wp2_with fail
          clear y0 y1 y2 y3 y4 y5 yf0 yf1 yf2 yf3 yf4 yf5 x0 x1 x2 x3 x4 x5 xf0 xf1 xf2 xf3 xf4 xf5;obtain ⟨f1,f2,f3⟩:=S1.fin (ys:=[.string ⟨#[]⟩,.slice none 0 0,.string ⟨#[]⟩,.int .i64 0,.int .i64 0,.slice none 0 0]) K320.out [.string n,.slice AS nS kS,.string tn,.int .i64 (tl:Int),.int .i64 (tm:Int),.slice A5 (Z5 Dd ds).len kA5] rfl;have Fv:=O321.out.fin (w:=w) (Nat.le_of_lt K320.out.bl) [.string n,.slice AS nS kS,.string tn,.int .i64 (tl:Int),.int .i64 (tm:Int),.slice A5 (Z5 Dd ds).len kA5];have Fd:=O322.out.fin (w:=w) (Nat.le_of_lt K320.out.bl) [.string n,.slice AS nS kS,.string tn,.int .i64 (tl:Int),.int .i64 (tm:Int),.slice A5 (Z5 Dd ds).len kA5];have FP:=HQ.out _ _ (Yy (a:=⟨n,VS,tn,tl,tm,ds⟩) (by simp only [fdR,E6.out,HE.out,E303.out,E310.out,E319.out,if_true]) ⟨[.string n,.slice AS nS kS,.string tn,.int .i64 (tl:Int),.int .i64 (tm:Int),.slice A5 (Z5 Dd ds).len kA5],rfl,TS.str Nn.out (TS.row Fv (TS.str NT.out (TS.int (TS.int (TS.row Fd (TS.nil _ _))))))⟩ f2 f3);exact Y6 rfl rfl rfl f1 Tryz.underlying73 ⟨_,rfl⟩ (by kernel_rfl) FP
theorem En:(Tryz.prog.info? 9).map (fun i=>(i.zero,i.size,i.bytes))=some (some (.string ⟨#[]⟩),1,16):=by kernel_rfl
theorem Zy2 {s:ByteArray} {g:Nat} {acc:List ByteArray} {ts:List Tok} (h:atB 1 s ts=false):Vk s (g+1) acc ts=.ok (acc,ts):=by rw [Vk,if_neg (by rw [h];simp)]
theorem Ycg {s:ByteArray} {g:Nat} {acc:List ByteArray} {ts:List Tok} (h:atB 1 s ts=true):Vk s (g+1) acc ts=(match Zg ts.tail with
 | none=>.error 2
 | some (n,r)=>Vk s g (acc++[n]) r):=by rw [Vk,if_pos h];rfl
theorem Yb9 {w:World} {base:Nat} (n:ByteArray) (hn:n.size≤9000) (hb:base≤w.heap.size):RTr 9 1 base (w.alloc (.cells #[.string n] 9)) (.slice (some ⟨w.heap.size,0,none⟩) 1 1) (Z5 Zd [n]):=
 ⟨[.string n],fun _=>False,World.ownsRow_lit w #[.string n] 1 hb (by decide) rfl,⟨[.string n],[],rfl,TS.str hn (TS.nil _ _),rfl⟩,fun _ h=>h.elim⟩
theorem To (s:ByteArray) (d:Nat) (ts:List Tok) (r:Nat) (w:World) (hG:Yn ts) (hR:Rd w r ts d) (hK:KRd r w):Calls Tryz.prog 50 #[.pointer (some ⟨r,0,none⟩),.string s] w (Ca r d w (Yfq (Z5 Zd)) (Xl s ts)):=by
 refine cQE (fun Q hQ=>?_);obtain ⟨i0,hi,hz0,hz1,hz2⟩:=info_parts En;have HQ:=Hd hQ;have hr:=hR.lt;have hlen:ts.length≤200000:=by obtain ⟨_,_,_,_,h,_⟩:=hR;exact h
 have B0:=Hd (And.intro hR (And.intro hK hG));clear hQ hG hR hK
 go_enter Tryz.func50,Tryz.ntmps50
 go_wp2_with fail
 refine (Yg r ts d 1 s _ B0.out.1).mono ?_;rintro e wa ⟨rfl,ra,ma⟩;have G0:=Hd (B0.out.2.2.sub (Qp 1 s ts));have hl0:=(Qp 1 s ts).length_le;have KA:=Hd (And.intro ra (And.intro ma (B0.out.2.1.moved ma)));clear ra ma;go_wp2_with fail
 refine (Yr r (Xs 1 s ts) d _ KA.out.1).mono ?_;intro e wb h;rcases hn:Zg (Xs 1 s ts) with _|p
 · rw [hn] at h
   obtain ⟨rfl,m⟩:=h;exact ⟨rfl,HQ.out _ _ (per (by unfold Xl;rw [hn]) (KA.out.2.1.trans m))⟩
 obtain ⟨n0,t0⟩:=p;rw [hn] at h;obtain ⟨rfl,rb,mb⟩:=h;obtain ⟨RES,hRES⟩:∃ RES,Xl s ts=RES:=⟨_,rfl⟩;have HRES:=Hd (show Vk s (t0.length+1) [n0] t0=RES by rw [← hRES];unfold Xl;rw [hn]);rw [hRES] at HQ;have GN:=Hd (G0.out.name hn);have GB:=Hd (G0.out.sub (Zt hn).1);have hlb:=(Zt hn).2;have KB:=Hd (And.intro (rb.below (blw wb (.cells #[.string n0] 9))) (And.intro ((KA.out.2.1.trans mb).trans (Z0.of_below (blw wb (.cells #[.string n0] 9)))) (((KA.out.2.2.moved mb)).moved (Z0.of_below (blw wb (.cells #[.string n0] 9))))));have TB:=Hd (Yb9 (w:=wb) (base:=w.heap.size) n0 GN.out (KA.out.2.1.trans mb).size);clear rb mb hn hRES KA;go_wp2_with fail
 go_loopg [5] (t0.length+1) (fun g out wx=>∃ (acc:List ByteArray) (tq:List Tok),tq.length+1≤g∧tq.length≤t0.length∧acc.length+tq.length≤200001∧Aside (RTr 9 1 w.heap.size wx out (Z5 Zd acc)∧Z0 r w wx∧Rd wx r tq d∧KRd r wx∧Yn tq∧Vk s g acc tq=RES))
 case atStart=>exact ⟨[n0],t0,Nat.le_refl _,Nat.le_refl _,by simp;omega,Za ⟨TB.out,KB.out.2.1,KB.out.1,KB.out.2.2,GB.out,HRES.out⟩⟩
 case round =>
   obtain ⟨acc,tq,hq,hql,hal,HA⟩:=hrel;obtain ⟨hrt,hmx,hrx,hkx,hgx,hex⟩:=HA.out;obtain ⟨Ao,co,rfl⟩:=hrt.shape;have KX:=Hd (And.intro hmx (And.intro hrx hkx));have GX:=Hd hgx;have EX:=Hd hex;have HRT:=Hd hrt;clear HA hmx hrx hkx hgx hex hrt
   cases gk with
   | zero=>omega
   | succ g =>
     go_wp2_with fail
     refine (Yg r tq d 1 s _ KX.out.2.1).mono ?_;intro e w1 h
     cases hb:atB 1 s tq with
     | false =>
       rw [hb] at h;obtain ⟨rfl,r1,m1⟩:=h;rw [Uh hb] at r1;have hE:=EX.out;rw [Zy2 hb] at hE;have T5:=Hd ((HRT.out.moved m1 hr).fin (by rw [Zl];omega));have R1:=Hd (And.intro r1 (KX.out.1.trans m1));have E5:=Hd hE;clear r1 m1 hE hb;go_wp2_with fail
       exact HQ.out _ _ (Yy E5.out.symm T5.out R1.out.1 R1.out.2)
     | true =>
       rw [hb] at h;obtain ⟨rfl,r1,m1⟩:=h;rw [Jq hb] at r1;have hE:=EX.out;rw [Ycg hb] at hE;have G1:=Hd (GX.out.sub (Zn hb).1);have hl1:=(Zn hb).2;have R1:=Hd (And.intro r1 m1);have E1:=Hd hE;clear r1 m1 hE hb;go_wp2_with fail
       refine (Yr r tq.tail d _ R1.out.1).mono ?_;intro e w2 h
       cases hn:Zg tq.tail with
       | none =>
         rw [hn] at h;obtain ⟨rfl,m⟩:=h;have hE:=E1.out;rw [hn] at hE;exact ⟨rfl,HQ.out _ _ (per hE.symm ((KX.out.1.trans R1.out.2).trans m))⟩
       | some p =>
         obtain ⟨nm,tq2⟩:=p;rw [hn] at h;obtain ⟨rfl,r2,m2⟩:=h;have hE:=E1.out;rw [hn] at hE;simp only at hE;have G3:=Hd (G1.out.sub (Zt hn).1);have hl2:=(Zt hn).2;have hnm:=Hd (G1.out.name hn);have M3:=Hd (R1.out.2.trans m2);have R3:=Hd r2;have E3:=Hd hE;have T3:=Hd (TS.str hnm.out (TS.nil _ _):TS w2 (Y7 wr w2) (Zd nm) [.string nm]);have hs3:=M3.out.size;have hs0:=KX.out.1.size;obtain ⟨xs,P,hown,hvals,hP⟩:=HRT.out;have HOW:=Hd (And.intro hown (And.intro hvals hP));have O3:=Hd (Yk hown M3.out hr);clear r2 m2 hE hn hown hvals hP
         go_wp2_with (at_builtin;refine wpList_append_lies _ rfl _ _ 31 rfl w.heap.size 9 i0 (.string ⟨#[]⟩) 1 16 Tryz.underlying31 hi hz0 hz1 hz2 rfl (by decide) _ (Z5 Zd acc).len xs rfl (Yw O3.out (blw _ _)) _ 1 1 [.string nm] rfl rfl (fun j u hj=>World.news_of_block (heap_alloc_new _ _) j u hj) (by intro y hy;simp at hy;rcases hy with rfl<;>rfl) (by decide) (by unfold maxLen;rw [Zl];omega) (by rw [Zl];omega) (by simp;omega) _ rfl ?_;intro gg cap2 w4 hown4 hgrow hat hlt4;have HG4:=Hd hgrow;have HO4:=Hd hown4;have HT4:=Hd hat;clear hgrow hown4 hat)
         have hgk:=J0 HG4.out (r:=r) (fun b hb=>by have:=(HOW.out.1.lt b hb).1;omega);have R4:=hgk.1 _ _ (R3.out.below (blw _ _));have D4:=hgk.2 ((KX.out.2.2.moved M3.out).moved (Z0.of_below (blw _ _)))
         have M4:Z0 r w w4:=by
          have m:=(KX.out.1.trans M3.out).trans (Z0.of_below (blw _ (.cells #[.string nm] 9)));exact ⟨HG4.out.os.trans m.os,HG4.out.tape.trans m.tape,HG4.out.output.trans m.output,Nat.le_trans m.size HG4.out.size,fun k hk hn=>(HG4.out.block k (Nat.lt_of_lt_of_le hk m.size) (fun e=>by have:=(HOW.out.1.lt k e.symm).1;omega)).trans (m.block k hk hn)⟩
         have T4:=RTr.app hr (by omega) HOW.out.1 HOW.out.2.1 HOW.out.2.2 M3.out (TS.keep (fun _ hk=>⟨⟨hk.1,hk.2⟩,rfl⟩) _ _ T3.out) HO4.out HG4.out HT4.out
         go_roundg g
         case measure=>omega
         case rel=>exact ⟨acc++[nm],tq2,by omega,by omega,by rw [List.length_append];simp;omega,Za ⟨by rw [Zx];exact T4,M4,R4,D4,G3.out,E3.out⟩⟩
theorem No (w:World):Calls Tryz.prog 85 #[.int .i64 1] w fun e w'=>e=.returned (.string ⟨#[116,121,112,101]⟩)∧w=w':=by
 go_enter Tryz.func85,Tryz.ntmps85
 go_wp2_with fail
 go_ret
 exact ⟨rfl,rfl⟩
theorem Nz (w:World):Calls Tryz.prog 85 #[.int .i64 2] w fun e w'=>e=.returned (.string ⟨#[105,110,116,101,114,102,97,99,101]⟩)∧w=w':=by
 go_enter Tryz.func85,Tryz.ntmps85
 go_wp2_with fail
 go_ret
 exact ⟨rfl,rfl⟩
theorem Ns (w:World):Calls Tryz.prog 85 #[.int .i64 3] w fun e w'=>e=.returned (.string ⟨#[117,110,105,111,110]⟩)∧w=w':=by
 go_enter Tryz.func85,Tryz.ntmps85
 go_wp2_with fail
 go_ret
 exact ⟨rfl,rfl⟩
theorem P6 (w:World):Calls Tryz.prog 85 #[.int .i64 4] w fun e w'=>e=.returned (.string ⟨#[101,110,117,109]⟩)∧w=w':=by
 go_enter Tryz.func85,Tryz.ntmps85
 go_wp2_with fail
 go_ret
 exact ⟨rfl,rfl⟩
theorem Py (w:World):Calls Tryz.prog 85 #[.int .i64 5] w fun e w'=>e=.returned (.string ⟨#[105,110,112,117,116]⟩)∧w=w':=by
 go_enter Tryz.func85,Tryz.ntmps85
 go_wp2_with fail
 go_ret
 exact ⟨rfl,rfl⟩
def Qi:Nat→List UInt8
 | 1=>[116,121,112,101]
 | 2=>[105,110,116,101,114,102,97,99,101]
 | 3=>[117,110,105,111,110]
 | 4=>[101,110,117,109]
 | 5=>[105,110,112,117,116]
 | _=>[]
theorem Cm {s:ByteArray} {k:Nat} (h1:1≤k) (h5:k≤5) (hn:∀ j,1≤j→j < k→(Qi j == s.toList)=false) (h:(Qi k == s.toList)=true):Yo s=k:=by
 have e:=eq_of_beq h;unfold Yo;rw [← e];have hk:k=1∨k=2∨k=3∨k=4∨k=5:=by omega
 rcases hk with rfl|rfl|rfl|rfl|rfl<;>decide +kernel
theorem Zvg {s:ByteArray} (hn:∀ j,1≤j→j < 6→(Qi j == s.toList)=false):Yo s=0:=by
 have sym:∀ l:List UInt8,(l == s.toList)=false→(s.toList == l)=false:=fun l h=>by
  cases hc:(s.toList == l) with
  | false=>rfl
  | true=>rw [eq_of_beq hc] at h;simp at h
 have h1:(s.toList == Yha.toList)=false:=by rw [show Yha.toList=Qi 1 by decide +kernel];exact sym _ (hn 1 (by omega) (by omega))
 have h2:(s.toList == Yi0.toList)=false:=by rw [show Yi0.toList=Qi 2 by decide +kernel];exact sym _ (hn 2 (by omega) (by omega))
 have h3:(s.toList == Zv6.toList)=false:=by rw [show Zv6.toList=Qi 3 by decide +kernel];exact sym _ (hn 3 (by omega) (by omega))
 have h4:(s.toList == Zkv.toList)=false:=by rw [show Zkv.toList=Qi 4 by decide +kernel];exact sym _ (hn 4 (by omega) (by omega))
 have h5:(s.toList == Zki.toList)=false:=by rw [show Zki.toList=Qi 5 by decide +kernel];exact sym _ (hn 5 (by omega) (by omega))
 unfold Yo;simp only [h1,h2,h3,h4,h5,Bool.false_eq_true,if_false]
theorem Zyr (s:ByteArray) (w:World):Calls Tryz.prog 49 #[.string s] w fun e w'=>if Yo s=0 then e=Yb 2∧w=w' else e=.returned (.int .i64 (Yo s))∧w=w':=by
 refine cQE (fun Q hQ=>?_);have HQ:=Hd hQ;clear hQ
 go_enter Tryz.func49,Tryz.ntmps49
 go_wp2_with fail
 go_loopg [3] 6 (fun g v wx=>∃ k:Nat,v=.int .i64 (k:Int)∧1≤k∧k+g=7∧k≤6∧Aside (wx=w∧∀ j,1≤j→j < k→(Qi j == s.toList)=false))
 case atStart=>exact ⟨1,rfl,Nat.le_refl _,rfl,by decide,Za ⟨rfl,fun j h1 h2=>by omega⟩⟩
 case round =>
  obtain ⟨k,rfl,h1,hg,h6,HA⟩:=hrel;obtain ⟨rfl,hn⟩:=HA.out;have HN:=Hd hn;clear HA hn
  cases gk with
  | zero=>omega
  | succ g =>
    have hk:k=1∨k=2∨k=3∨k=4∨k=5∨k=6:=by omega
    rcases hk with rfl|rfl|rfl|rfl|rfl|rfl
    · cases ht:([116,121,112,101] == s.toList) with
      | true =>
        have HK:=Hd (Cm (k:=1) (by decide) (by decide) HN.out ht);go_wp2_with fail
        refine (No _).mono ?_;rintro e w1 ⟨rfl,rfl⟩;go_wp2_with fail
        exact HQ.out _ _ (by rw [HK.out];exact ⟨rfl,rfl⟩)
      | false =>
        go_wp2_with fail
        refine (No _).mono ?_;rintro e w1 ⟨rfl,rfl⟩;go_wp2_with fail
        go_roundg g
        case measure=>omega
        case rel=>exact ⟨1+1,rfl,by omega,by omega,by omega,Za ⟨rfl,fun j h1 h2=>by
         by_cases hj:j=1
         · subst hj;exact ht
         · exact HN.out j h1 (by omega)⟩⟩
    · cases ht:([105,110,116,101,114,102,97,99,101] == s.toList) with
      | true =>
        have HK:=Hd (Cm (k:=2) (by decide) (by decide) HN.out ht);go_wp2_with fail
        refine (Nz _).mono ?_;rintro e w1 ⟨rfl,rfl⟩;go_wp2_with fail
        exact HQ.out _ _ (by rw [HK.out];exact ⟨rfl,rfl⟩)
      | false =>
        go_wp2_with fail
        refine (Nz _).mono ?_;rintro e w1 ⟨rfl,rfl⟩;go_wp2_with fail
        go_roundg g
        case measure=>omega
        case rel=>exact ⟨2+1,rfl,by omega,by omega,by omega,Za ⟨rfl,fun j h1 h2=>by
         by_cases hj:j=2
         · subst hj;exact ht
         · exact HN.out j h1 (by omega)⟩⟩
    · cases ht:([117,110,105,111,110] == s.toList) with
      | true =>
        have HK:=Hd (Cm (k:=3) (by decide) (by decide) HN.out ht);go_wp2_with fail
        refine (Ns _).mono ?_;rintro e w1 ⟨rfl,rfl⟩;go_wp2_with fail
        exact HQ.out _ _ (by rw [HK.out];exact ⟨rfl,rfl⟩)
      | false =>
        go_wp2_with fail
        refine (Ns _).mono ?_;rintro e w1 ⟨rfl,rfl⟩;go_wp2_with fail
        go_roundg g
        case measure=>omega
        case rel=>exact ⟨3+1,rfl,by omega,by omega,by omega,Za ⟨rfl,fun j h1 h2=>by
         by_cases hj:j=3
         · subst hj;exact ht
         · exact HN.out j h1 (by omega)⟩⟩
    · cases ht:([101,110,117,109] == s.toList) with
      | true =>
        have HK:=Hd (Cm (k:=4) (by decide) (by decide) HN.out ht);go_wp2_with fail
        refine (P6 _).mono ?_;rintro e w1 ⟨rfl,rfl⟩;go_wp2_with fail
        exact HQ.out _ _ (by rw [HK.out];exact ⟨rfl,rfl⟩)
      | false =>
        go_wp2_with fail
        refine (P6 _).mono ?_;rintro e w1 ⟨rfl,rfl⟩;go_wp2_with fail
        go_roundg g
        case measure=>omega
        case rel=>exact ⟨4+1,rfl,by omega,by omega,by omega,Za ⟨rfl,fun j h1 h2=>by
         by_cases hj:j=4
         · subst hj;exact ht
         · exact HN.out j h1 (by omega)⟩⟩
    · cases ht:([105,110,112,117,116] == s.toList) with
      | true =>
        have HK:=Hd (Cm (k:=5) (by decide) (by decide) HN.out ht);go_wp2_with fail
        refine (Py _).mono ?_;rintro e w1 ⟨rfl,rfl⟩;go_wp2_with fail
        exact HQ.out _ _ (by rw [HK.out];exact ⟨rfl,rfl⟩)
      | false =>
        go_wp2_with fail
        refine (Py _).mono ?_;rintro e w1 ⟨rfl,rfl⟩;go_wp2_with fail
        go_roundg g
        case measure=>omega
        case rel=>exact ⟨5+1,rfl,by omega,by omega,by omega,Za ⟨rfl,fun j h1 h2=>by
         by_cases hj:j=5
         · subst hj;exact ht
         · exact HN.out j h1 (by omega)⟩⟩
    · have HK:=Hd (Zvg HN.out)
      go_wp2_with fail
      exact ⟨rfl,HQ.out _ _ (by rw [HK.out,if_pos rfl];exact ⟨rfl,rfl⟩)⟩
end Go.Proofs.YtkmloefbkgcbkaaGreatDoor
