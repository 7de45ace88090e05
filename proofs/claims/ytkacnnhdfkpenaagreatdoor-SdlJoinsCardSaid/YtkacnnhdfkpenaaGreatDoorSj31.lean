/- The landed series: string. -/
import Derived.Test.YtkacnnhdfkpenaaGreatDoorSj30
set_option maxRecDepth 100000
set_option maxHeartbeats 8000000
namespace Go.Proofs.YtkacnnhdfkpenaaGreatDoor
open Go.RowKit
def layStr (w:World) (P:Nat→Prop) (a:ByteArray) (v:Value):Prop:=v=.string a∧TS w P (encStr a) [.string a]
theorem str_open {w:World} {P:Nat→Prop} {a:ByteArray} {v:Value} (h:layStr w P a v):∃ s0:ByteArray,v=.string s0∧TS w P (encStr a) [.string s0]:=⟨a,h.1,h.2⟩
theorem info_SdN:(Tryz.prog.info? 9).map (fun i=>(i.zero,i.size,i.bytes))=some (some (.string ⟨#[]⟩),1,16):=by kernel_rfl
theorem serSdN_any (en:ByteArray) (one:List Tok→Except Int ((ByteArray) × List Tok)) (hS:∀ ts a r,one ts=.ok (a,r)→Sfx r ts) (r d:Nat) (ts:List Tok) (w:World)
  (HC:∀ tq wx,GoodD tq→tq.length≤ts.length→Rd wx r tq d→KRd r wx→NoX r wx→Calls Tryz.prog 226 #[.pointer (some ⟨r,0,none⟩)] wx (Post r d wx layStr (one tq)))
  (hG:GoodD ts) (hR:Rd w r ts d) (hK:KRd r w) (hX:NoX r w):Calls Tryz.prog 225 #[.pointer (some ⟨r,0,none⟩),.string en,.func (.func 226) #[] #[]] w (Post r d w (layR (rowOf encStr)) (serR one addL en (ts.length+1) [] ts)):=by
 suffices H:∀ Q:Ending→World→Prop,(∀ e w',Post r d w (layR (rowOf encStr)) (serR one addL en (ts.length+1) [] ts) e w'→Q e w')→Calls Tryz.prog 225 #[.pointer (some ⟨r,0,none⟩),.string en,.func (.func 226) #[] #[]] w Q from H _ (fun _ _ h=>h)
 intro Q hQ
 obtain ⟨ti0,hi,hz0,hz1,hz2⟩:=info_parts info_SdN
 obtain ⟨RES,hRES⟩:∃ RES,serR one addL en (ts.length+1) [] ts=RES:=⟨_,rfl⟩
 rw [hRES] at hQ
 have HQ:=Hd hQ
 have HRES:=Hd hRES
 have HCC:=Hd HC
 have HSS:=Hd hS
 have hr:=hR.lt
 have hlen:ts.length≤200000:=by obtain ⟨_,_,_,_,h,_⟩:=hR;exact h
 have B0:=Hd (And.intro hR (And.intro hK (And.intro hG hX)))
 clear hQ hRES HC hS hG hR hK hX
 go_enter Tryz.func225,Tryz.ntmps225
 go_wp2_with fail
 go_loopg [7] (ts.length+1) (fun g out wx=>∃ (acc:List ByteArray) (tq:List Tok),tq.length+1≤g∧tq.length≤ts.length∧((rowOf encStr) acc).len+tq.length≤200000∧Aside (RTr 9 1 w.heap.size wx out ((rowOf encStr) acc)∧Moved r w wx∧Rd wx r tq d∧KRd r wx∧GoodD tq∧NoX r wx∧serR one addL en g acc tq=RES))
 case atStart=>exact ⟨[],ts,Nat.le_refl _,Nat.le_refl _,by rw [show ((rowOf encStr) []).len=0 from rfl];omega,vaside ⟨(RTr.start _ _ _ _),Moved.refl _ _,B0.out.1,B0.out.2.1,B0.out.2.2.1,B0.out.2.2.2,HRES.out⟩⟩
 case round =>
  obtain ⟨acc,tq,hq,hql,hal,HA⟩:=hrel
  obtain ⟨hrt,hmx,hrx,hkx,hgx,hxx,hex⟩:=HA.out
  obtain ⟨xs,P,hown,hvals,hP⟩:=hrt
  obtain ⟨Ao,co,rfl⟩:=shape_own hown
  have KX:=Hd (And.intro hmx (And.intro hrx (And.intro hkx hxx)))
  have GX:=Hd hgx
  have EX:=Hd hex
  have HRT:=Hd (And.intro hown (And.intro hvals hP))
  clear HA hmx hrx hkx hgx hxx hex hown hvals hP
  cases gk with
  | zero=>omega
  | succ g =>
    go_wp2_with fail
    refine (HCC.out tq _ GX.out hql KX.out.2.1 KX.out.2.2.1 KX.out.2.2.2).mono ?_
    intro e w2 h
    cases hv:one tq with
    | error x =>
      rw [hv] at h
      obtain ⟨rfl,m⟩:=of_err h
      exact ⟨rfl,HQ.out _ _ (per (by rw [← EX.out,serR,hv]) (KX.out.1.trans m))⟩
    | ok p =>
      obtain ⟨a,tq2⟩:=p
      rw [hv] at h
      obtain ⟨⟨v,rfl,hl⟩,r2,m2⟩:=of_ok h
      obtain ⟨s0,rfl,hts⟩:=str_open hl
      have hsf:=HSS.out _ _ _ hv
      have hsl:=hsf.2
      have G2:=Hd (GX.out.sub hsf.1)
      have M2:=Hd m2
      have R2:=Hd r2
      have T2:=Hd hts
      have hs2:=m2.size
      have hs0:=KX.out.1.size
      have O2:=Hd (own_moved HRT.out.1 m2 hr)
      have HV:=Hd hv
      clear h hv hl hts r2 m2 hsf
      go_wp2_with (at_builtin;refine wpList_append_lies _ rfl _ _ 64 rfl w.heap.size 9 ti0 (.string ⟨#[]⟩) 1 16 Tryz.underlying64 hi hz0 hz1 hz2 rfl (by decide) _ ((rowOf encStr) acc).len xs rfl (own_low O2.out (blw _ _)) _ 1 1 [.string s0] rfl rfl (fun j u hj=>World.news_of_block (heap_alloc_new _ _) j u hj) (by intro y hy;simp at hy;rcases hy with rfl<;>rfl) (by decide) (by unfold maxLen;omega) (by omega) (by simp;omega) _ rfl ?_;intro gg cap2 w4 hown4 hgrow hat hlt4;have HG4:=Hd hgrow;have HO4:=Hd hown4;have HT4:=Hd hat;clear hgrow hown4 hat)
      have hgk:=grown_keep HG4.out (r:=r) (fun b hb=>by have:=(HRT.out.1.lt b hb).1;omega)
      have R4:=Hd (hgk.1 _ _ (R2.out.below (blw _ _)))
      have D4:=Hd (hgk.2 ((KX.out.2.2.1.moved M2.out).moved (Moved.of_below (blw _ _))))
      have M4:=Hd (show Moved r w w4 from by
        have m:=(KX.out.1.trans M2.out).trans (Moved.of_below (blw _ (.cells #[.string s0] 9)))
        exact ⟨HG4.out.os.trans m.os,HG4.out.tape.trans m.tape,HG4.out.output.trans m.output,Nat.le_trans m.size HG4.out.size,fun k hk hn=>(HG4.out.block k (Nat.lt_of_lt_of_le hk m.size) (fun e=>by have:=(HRT.out.1.lt k e.symm).1;omega)).trans (m.block k hk hn)⟩)
      have X4:=Hd (show NoX r w4 from trivial)
      have T4:=Hd (RTr.app hr (by omega) HRT.out.1 HRT.out.2.1 HRT.out.2.2 M2.out (TS.keep (fun _ hk=>⟨⟨hk.1,hk.2⟩,rfl⟩) _ _ T2.out) HO4.out HG4.out HT4.out)
      clear hgk
      go_wp2_with fail
      refine (skip_any r tq2 d 1 en _ R4.out).mono ?_
      intro e w5 h5
      have hE:=EX.out
      rw [serR,HV.out] at hE
      simp only at hE
      cases hb:atB 1 en tq2 with
      | true =>
        rw [hb] at h5 hE
        obtain ⟨rfl,r5,m5⟩:=h5
        rw [skip_yes hb] at r5
        simp only [if_true] at hE
        have T5:=Hd ((T4.out.moved m5 hr).fin (by rw [TrL.snoc_len];omega))
        have R5:=Hd r5
        have M5:=Hd (M4.out.trans m5)
        have E5:=Hd hE
        clear r5 m5 hE hb
        go_wp2_with fail
        exact HQ.out _ _ (post_ok E5.out.symm (show TP _ _ (.row ((rowOf encStr) (addL acc a))) _ by rw [show (rowOf encStr) (addL acc a)=((rowOf encStr) acc).snoc (encStr a) from rowOf_snoc _ _ _];exact T5.out) R5.out M5.out)
      | false =>
        rw [hb] at h5 hE
        obtain ⟨rfl,r5,m5⟩:=h5
        rw [skip_no hb] at r5
        simp only [Bool.false_eq_true,if_false] at hE
        have T5:=Hd (T4.out.moved m5 hr)
        have R5:=Hd r5
        have M5:=Hd (M4.out.trans m5)
        have X5:=Hd (X4.out.moved m5)
        have D5:=Hd (D4.out.moved m5)
        have E5:=Hd hE
        clear r5 m5 hE hb
        go_wp2_with fail
        go_roundg g
        case measure=>omega
        case rel=>exact ⟨addL acc a,tq2,by omega,by omega,by rw [show (rowOf encStr) (addL acc a)=((rowOf encStr) acc).snoc (encStr a) from rowOf_snoc _ _ _,TrL.snoc_len];omega,vaside ⟨by rw [show (rowOf encStr) (addL acc a)=((rowOf encStr) acc).snoc (encStr a) from rowOf_snoc _ _ _];exact T5.out,M5.out,R5.out,D5.out,G2.out,X5.out,E5.out⟩⟩
theorem Rd.kindtail {w:World} {r d:Nat} {ts:List Tok} (h:kindB 5 ts=true):∃ t us,ts=t :: us∧remT ts=us:=by
 cases ts with
 | nil=>cases h
 | cons t us=>exact ⟨t,us,rfl,by unfold remT;rw [if_pos h];rfl⟩
theorem rem_any (r:Nat) (ts:List Tok) (d:Nat) (w:World) (h:Rd w r ts d):Calls Tryz.prog 145 #[.pointer (some ⟨r,0,none⟩)] w fun e w'=>e=.returned (.tuple #[])∧Rd w' r (remT ts) d∧Moved r w w':=by
 have HK:=Hd (atKind_any 5 r ts d w h)
 have HH:=Hd h
 cases hb:kindB 5 ts with
 | false =>
   rw [hb] at HK
   have HE:=Hd (show remT ts=ts by unfold remT;rw [if_neg (by rw [hb];simp)])
   clear h hb
   go_enter Tryz.func145,Tryz.ntmps145
   go_wp2_with fail
   refine HK.out.mono ?_
   rintro e w1 ⟨rfl,rfl⟩
   go_wp2_with fail
   go_end0
   exact ⟨rfl,by rw [HE.out];exact HH.out,Moved.refl _ _⟩
 | true =>
   rw [hb] at HK
   obtain ⟨t,us,rfl,e2⟩:=Rd.kindtail (w:=w) (r:=r) (d:=d) hb
   have HE:=Hd e2
   have HT:=Hd (take_yes r t us d w h)
   clear h hb e2 HH
   go_enter Tryz.func145,Tryz.ntmps145
   go_wp2_with fail
   refine HK.out.mono ?_
   rintro e w1 ⟨rfl,rfl⟩
   go_wp2_with fail
   refine HT.out.mono ?_
   rintro e w2 ⟨rfl,rr,mm⟩
   have RR:=Hd (And.intro rr mm)
   clear rr mm
   go_wp2_with fail
   go_end0
   exact ⟨rfl,by rw [HE.out];exact RR.out.1,RR.out.2⟩
theorem rparam_any (d:Nat) (ts:List Tok) (r:Nat) (w:World) (hG:GoodD ts) (hd:d≤16) (hR:Rd w r ts d) (hK:KRd r w):Calls Tryz.prog 228 #[.pointer (some ⟨r,0,none⟩)] w (Post r d w (layS encVar) (parR d ts)):=by
 suffices H:∀ Q:Ending→World→Prop,(∀ e w',Post r d w (layS encVar) (parR d ts) e w'→Q e w')→Calls Tryz.prog 228 #[.pointer (some ⟨r,0,none⟩)] w Q from H _ (fun _ _ h=>h)
 intro Q hQ
 have HQ:=Hd hQ
 have K0:=Hd (S0.start hR hK #[.string ⟨#[]⟩,.string ⟨#[]⟩,.int .i64 0,.int .i64 0,.bool false,.int .i64 0,.int .i64 0,.string ⟨#[]⟩,.slice none 0 0,.slice none 0 0] 203)
 have G2:=Hd (hG.sub (rem_suf ts))
 have HD:=Hd hd
 clear hQ hR hK hG hd
 go_enter Tryz.func228,Tryz.ntmps228
 go_wp2_with fail
 refine (rem_any r ts d _ K0.out.rd).mono ?_
 rintro e w1 ⟨rfl,rr,mm⟩
 have K4:=Hd (K0.out.next rr mm)
 clear rr mm
 go_wp2_with fail
 refine (param_any d (remT ts) r _ G2.out HD.out K4.out.rd K4.out.k).mono ?_
 intro e w2 h
 cases hv:paramR d (remT ts) with
 | error x =>
   rw [hv] at h
   obtain ⟨rfl,m⟩:=of_err h
   exact ⟨rfl,HQ.out _ _ (per (by rw [parR,hv]) (K4.out.mv.trans m))⟩
 | ok p =>
   obtain ⟨a,ts1⟩:=p
   rw [hv] at h
   obtain ⟨⟨v,rfl,hl⟩,r1,m1⟩:=of_ok h
   obtain ⟨s0,s1,i2,i3,b4,i5,i6,s7,A8,n8,k8,A9,n9,k9,rfl,hts⟩:=var_open hl
   have K5:=Hd (K4.out.next r1 m1)
   have T1:=Hd (OvS.of hts K4.out.lt)
   obtain ⟨y0,y1,y2,y3,y4,y5,y6,y7,y8,y9,yz⟩:=ten_cells K5.out.res
   have z0:=yz 0
   have z1:=yz 1
   have z2:=yz 2
   have z3:=yz 3
   have z4:=yz 4
   have z5:=yz 5
   have z6:=yz 6
   have z7:=yz 7
   have z8:=yz 8
   have z9:=yz 9
   have HV:=Hd hv
   clear r1 m1 hl hts h hv yz
   go_wp2_with fail
   obtain ⟨f1,f2,f3⟩:=S0.fin (ys:=[.string ⟨#[]⟩,.string ⟨#[]⟩,.int .i64 0,.int .i64 0,.bool false,.int .i64 0,.int .i64 0,.string ⟨#[]⟩,.slice none 0 0,.slice none 0 0]) K5.out [.string s0,.string s1,.int .i64 i2,.int .i64 i3,.bool b4,.int .i64 i5,.int .i64 i6,.string s7,.slice A8 n8 k8,.slice A9 n9 k9] rfl
   have FT:=T1.out.fin (w:=w) (Nat.le_refl _) [.string s0,.string s1,.int .i64 i2,.int .i64 i3,.bool b4,.int .i64 i5,.int .i64 i6,.string s7,.slice A8 n8 k8,.slice A9 n9 k9]
   have FP:=HQ.out _ _ (post_ok (a:=a) (by rw [parR,HV.out]) ⟨_,rfl,FT⟩ f2 f3)
   exact ret_st rfl rfl rfl f1 Tryz.underlying203 ⟨_,rfl⟩ (by kernel_rfl) FP
theorem rfield_any (d:Nat) (ts:List Tok) (r:Nat) (w:World) (hG:GoodD ts) (hd:d≤16) (hR:Rd w r ts d) (hK:KRd r w):Calls Tryz.prog 224 #[.pointer (some ⟨r,0,none⟩)] w (Post r d w (layS encField) (fdR d ts)):=by
 suffices H:∀ Q:Ending→World→Prop,(∀ e w',Post r d w (layS encField) (fdR d ts) e w'→Q e w')→Calls Tryz.prog 224 #[.pointer (some ⟨r,0,none⟩)] w Q from H _ (fun _ _ h=>h)
 intro Q hQ
 have HQ:=Hd hQ
 have K0:=Hd (S0.start hR hK #[.string ⟨#[]⟩,.slice none 0 0,.string ⟨#[]⟩,.int .i64 0,.int .i64 0,.slice none 0 0] 140)
 have G0:=Hd hG
 clear hQ hR hK hG
 go_enter Tryz.func224,Tryz.ntmps224
 go_wp2_with fail
 refine (rem_any r (ts) d _ K0.out.rd).mono ?_
 rintro e w1 ⟨rfl,rr,mm⟩
 have G2:=Hd (G0.out.sub (rem_suf (ts)))
 have K3:=Hd (K0.out.next rr mm)
 clear rr mm
 go_wp2_with fail
 refine (pname_any r ((remT (ts))) d _ K3.out.rd).mono ?_
 intro e w4 h
 cases hn:nameR ((remT (ts))) with
 | none =>
   rw [hn] at h
   obtain ⟨rfl,m⟩:=h
   exact ⟨rfl,HQ.out _ _ (per (by simp only [fdR,hn]) (K3.out.mv.trans m))⟩
 | some p =>
   obtain ⟨n,tn4⟩:=p
   rw [hn] at h
   obtain ⟨rfl,rr,mm⟩:=h
   have Nn:=Hd (G2.out.name hn)
   have G5:=Hd (G2.out.sub (name_sfx hn).1)
   have E6:=Hd hn
   have K7:=Hd (K3.out.next rr mm)
   clear rr mm hn
   go_wp2_with fail
   have K8:=Hd (S1.make K7.out #[.string n,.slice none 0 0,.string ⟨#[]⟩,.int .i64 0,.int .i64 0,.slice none 0 0] 140)
   refine (skip_any r tn4 d 1 opB _ K8.out.rd).mono ?_
   intro e w9 h
   refine Or.elim (Bool.eq_false_or_eq_true (atB 1 opB tn4)).symm (fun hb=>?_) (fun hb=>?_)
   focus
    rw [hb] at h
    obtain ⟨rfl,rr,mm⟩:=h
    rw [skip_no hb] at rr
    have E10:=Hd hb
    have K11:=Hd (K8.out.next rr mm)
    clear rr mm hb
    go_wp2_with fail
    have HE:Hid (fparsR d tn4=.ok ([],tn4)):=Hd (by simp only [fparsR,E10.out,if_false,Bool.false_eq_true])
    obtain ⟨VS,hVS⟩:∃ zz:List VarT,[]=zz:=⟨_,rfl⟩
    obtain ⟨T2,hT2⟩:∃ zz:List Tok,tn4=zz:=⟨_,rfl⟩
    obtain ⟨AS,nS,kS,hSV⟩:∃ A n k,.slice none 0 0=Value.slice A n k:=⟨_,_,_,rfl⟩
    have HE:Hid (fparsR d tn4=.ok (VS,T2)):=by rw [← hVS,← hT2];exact HE
    have KJ2:Hid (S1 w r w9 (.cells #[.string ⟨#[]⟩,.slice none 0 0,.string ⟨#[]⟩,.int .i64 0,.int .i64 0,.slice none 0 0] 140 (0,0)) (w4.heap.size) (.cells #[.string n,.slice AS nS kS,.string ⟨#[]⟩,.int .i64 0,.int .i64 0,.slice none 0 0] 140 (0,0)) T2 d):=by rw [← hT2,← hSV];exact K11
    have GJ2:Hid (GoodD T2):=by rw [← hT2];exact G5
    have OVJ:Hid (Ov (w4.heap.size) w9 (.row (rowOf encVar VS)) (.slice AS nS kS)):=by rw [← hVS,← hSV];exact Hd (TP.none _ _)
    clear hVS hT2 hSV K11
    generalize w9=wk at KJ2 OVJ ⊢
   rotate_left
   focus
    rw [hb] at h
    obtain ⟨rfl,rr,mm⟩:=h
    rw [skip_yes hb] at rr
    have G12:=Hd (G5.out.sub (at_sfx hb).1)
    have E13:=Hd hb
    have K14:=Hd (K8.out.next rr mm)
    clear rr mm hb
    go_wp2_with fail
    refine (serSdP_any cpB (parR d) (fun _ _ _ h=>par_sfx h) r d (tn4.tail) _ (fun tq wx g _ hx hk _=>rparam_any d tq r wx g hd hx hk) G12.out K14.out.rd K14.out.k trivial).mono ?_
    intro e w15 h
    rcases hv:serR (parR d) addL cpB (((tn4.tail)).length+1) [] (tn4.tail) with x|p
    · skip
      rw [hv] at h
      obtain ⟨rfl,m⟩:=of_err h
      exact ⟨rfl,HQ.out _ _ (per (by simp only [fdR,fparsR,E6.out,E13.out,hv,if_true]) (K14.out.mv.trans m))⟩
    obtain ⟨ps,tp15⟩:=p
    rw [hv] at h
    obtain ⟨⟨v,rfl,hl⟩,rr,mm⟩:=of_ok h
    obtain ⟨A1,kA1,rfl,hts⟩:=row_open hl
    have G16:=Hd (G12.out.sub (ser_sfx (fun _ _ _ h=>par_sfx h) _ _ _ _ _ hv).1)
    have K17:=Hd (K14.out.next rr mm)
    have O18:=Hd (Ov.of hts K14.out.blt)
    have E19:=Hd hv
    clear rr mm hv hl hts h
    obtain ⟨y0,y1,y2,y3,y4,y5,yz⟩:=six_cells K17.out.loc
    have yf0:=yz 0
    have yf1:=yz 1
    have yf2:=yz 2
    have yf3:=yz 3
    have yf4:=yz 4
    have yf5:=yz 5
    clear yz
    go_wp2_with fail
    clear y0 y1 y2 y3 y4 y5 yf0 yf1 yf2 yf3 yf4 yf5
    have K20:Hid (S1 w r (w15.setCell ⟨w4.heap.size,1,none⟩ (.slice A1 (rowOf encVar ps).len kA1)) _ (w4.heap.size) (.cells #[.string n,.slice A1 (rowOf encVar ps).len kA1,.string ⟨#[]⟩,.int .i64 0,.int .i64 0,.slice none 0 0] 140 (0,0)) _ d):=Hd (K17.out.put 1 (.slice A1 (rowOf encVar ps).len kA1))
    have O21:Hid (Ov (w4.heap.size) (w15.setCell ⟨w4.heap.size,1,none⟩ (.slice A1 (rowOf encVar ps).len kA1)) _ _):=Hd (O18.out.put (i:=1) (v:=.slice A1 (rowOf encVar ps).len kA1) (Nat.le_refl _))
    generalize (w15.setCell ⟨w4.heap.size,1,none⟩ (.slice A1 (rowOf encVar ps).len kA1))=wz22 at K20 O21 ⊢
    have HE:Hid (fparsR d tn4=.ok (ps,tp15)):=Hd (by simp only [fparsR,E13.out,E19.out,if_true])
    obtain ⟨VS,hVS⟩:∃ zz:List VarT,ps=zz:=⟨_,rfl⟩
    obtain ⟨T2,hT2⟩:∃ zz:List Tok,tp15=zz:=⟨_,rfl⟩
    obtain ⟨AS,nS,kS,hSV⟩:∃ A n k,.slice A1 (rowOf encVar ps).len kA1=Value.slice A n k:=⟨_,_,_,rfl⟩
    have HE:Hid (fparsR d tn4=.ok (VS,T2)):=by rw [← hVS,← hT2];exact HE
    have KJ2:Hid (S1 w r wz22 (.cells #[.string ⟨#[]⟩,.slice none 0 0,.string ⟨#[]⟩,.int .i64 0,.int .i64 0,.slice none 0 0] 140 (0,0)) (w4.heap.size) (.cells #[.string n,.slice AS nS kS,.string ⟨#[]⟩,.int .i64 0,.int .i64 0,.slice none 0 0] 140 (0,0)) T2 d):=by rw [← hT2,← hSV];exact K20
    have GJ2:Hid (GoodD T2):=by rw [← hT2];exact G16
    have OVJ:Hid (Ov (w4.heap.size) wz22 (.row (rowOf encVar VS)) (.slice AS nS kS)):=by rw [← hVS,← hSV];exact O21
    clear hVS hT2 hSV K20
    generalize wz22=wk at KJ2 OVJ ⊢
   all_goals
    refine (need_any r T2 d 1 colB _ KJ2.out.rd).mono ?_
    intro e w301 h
    cases hb:atB 1 colB T2 with
    | false =>
      rw [hb] at h
      simp only [Bool.false_eq_true,if_false] at h
      obtain ⟨rfl,m⟩:=h
      exact ⟨rfl,HQ.out _ _ (per (by simp only [fdR,E6.out,HE.out,hb,if_false,Bool.false_eq_true]) (KJ2.out.mv.trans m))⟩
    | true =>
      rw [hb] at h
      simp only [if_true] at h
      obtain ⟨rfl,rr,mm⟩:=h
      have G302:=Hd (GJ2.out.sub (at_sfx hb).1)
      have E303:=Hd hb
      have K304:=Hd (KJ2.out.next rr mm)
      have O305:=Hd (OVJ.out.next mm KJ2.out.rb)
      clear rr mm hb
      go_wp2_with fail
      refine (wrapped_any T2.tail G302.out.2 r d _ K304.out.rd).mono ?_
      intro e w306 h
      cases hv:typeR 4 (T2.tail) with
      | error x =>
        rw [hv] at h
        obtain ⟨rfl,m⟩:=id h
        exact ⟨rfl,HQ.out _ _ (per (by simp only [fdR,E6.out,HE.out,E303.out,hv,if_true]) (K304.out.mv.trans m))⟩
      | ok p =>
        obtain ⟨⟨tn,tl,tm⟩,tp306⟩:=p
        rw [hv] at h
        obtain ⟨rfl,rr,mm⟩:=h
        have NT:=Hd (type_right 4 _ G302.out.2 _ _ _ _ hv).2.1
        have G307:=Hd (G302.out.sub (typ_sfx 4 _ _ _ hv).1)
        have K308:=Hd (K304.out.next rr mm)
        have O309:=Hd (O305.out.next mm K304.out.rb)
        have E310:=Hd hv
        clear rr mm hv
        obtain ⟨y0,y1,y2,y3,y4,y5,yz⟩:=six_cells K308.out.loc
        have yf0:=yz 0
        have yf1:=yz 1
        have yf2:=yz 2
        have yf3:=yz 3
        have yf4:=yz 4
        have yf5:=yz 5
        clear yz
        go_wp2_with fail
        clear y0 y1 y2 y3 y4 y5 yf0 yf1 yf2 yf3 yf4 yf5
        have K311:Hid (S1 w r (((w306.setCell ⟨w4.heap.size,2,none⟩ (.string tn)).setCell ⟨w4.heap.size,3,none⟩ (.int .i64 (tl:Int))).setCell ⟨w4.heap.size,4,none⟩ (.int .i64 (tm:Int))) _ (w4.heap.size) (.cells #[.string n,.slice AS nS kS,.string tn,.int .i64 (tl:Int),.int .i64 (tm:Int),.slice none 0 0] 140 (0,0)) _ d):=Hd (((K308.out.put 2 (.string tn)).put 3 (.int .i64 (tl:Int))).put 4 (.int .i64 (tm:Int)))
        have O312:Hid (Ov (w4.heap.size) (((w306.setCell ⟨w4.heap.size,2,none⟩ (.string tn)).setCell ⟨w4.heap.size,3,none⟩ (.int .i64 (tl:Int))).setCell ⟨w4.heap.size,4,none⟩ (.int .i64 (tm:Int))) _ _):=Hd (((O309.out.put (i:=2) (v:=.string tn) (Nat.le_refl _)).put (i:=3) (v:=.int .i64 (tl:Int)) (Nat.le_refl _)).put (i:=4) (v:=.int .i64 (tm:Int)) (Nat.le_refl _))
        generalize (((w306.setCell ⟨w4.heap.size,2,none⟩ (.string tn)).setCell ⟨w4.heap.size,3,none⟩ (.int .i64 (tl:Int))).setCell ⟨w4.heap.size,4,none⟩ (.int .i64 (tm:Int)))=wz313 at K311 O312 ⊢
        refine (dirs_any true d (tp306) r _ G307.out hd K311.out.rd K311.out.k).mono ?_
        intro e w314 h
        cases hv:dirsR true d (tp306) with
        | error x =>
          rw [hv] at h
          obtain ⟨rfl,m⟩:=of_err h
          exact ⟨rfl,HQ.out _ _ (per (by simp only [fdR,E6.out,HE.out,E303.out,E310.out,hv,if_true]) (K311.out.mv.trans m))⟩
        | ok p =>
          obtain ⟨ds,tp314⟩:=p
          rw [hv] at h
          obtain ⟨⟨v,rfl,hl⟩,rr,mm⟩:=of_ok h
          obtain ⟨A5,kA5,rfl,hts⟩:=row_open hl
          have G315:=Hd (G307.out.sub (dirs_sfx hv))
          have K316:=Hd (K311.out.next rr mm)
          have O317:=Hd (O312.out.next mm K311.out.rb)
          have O318:=Hd (Ov.of hts K311.out.blt)
          have E319:=Hd hv
          clear rr mm hv hl hts h
          obtain ⟨y0,y1,y2,y3,y4,y5,yz⟩:=six_cells K316.out.loc
          have yf0:=yz 0
          have yf1:=yz 1
          have yf2:=yz 2
          have yf3:=yz 3
          have yf4:=yz 4
          have yf5:=yz 5
          clear yz
          go_upto_region 8 with fail
          clear y0 y1 y2 y3 y4 y5 yf0 yf1 yf2 yf3 yf4 yf5
          have K320:Hid (S1 w r (w314.setCell ⟨w4.heap.size,5,none⟩ (.slice A5 (rowOf encD ds).len kA5)) _ (w4.heap.size) (.cells #[.string n,.slice AS nS kS,.string tn,.int .i64 (tl:Int),.int .i64 (tm:Int),.slice A5 (rowOf encD ds).len kA5] 140 (0,0)) _ d):=Hd (K316.out.put 5 (.slice A5 (rowOf encD ds).len kA5))
          have O321:Hid (Ov (w4.heap.size) (w314.setCell ⟨w4.heap.size,5,none⟩ (.slice A5 (rowOf encD ds).len kA5)) _ _):=Hd (O317.out.put (i:=5) (v:=.slice A5 (rowOf encD ds).len kA5) (Nat.le_refl _))
          have O322:Hid (Ov (w4.heap.size) (w314.setCell ⟨w4.heap.size,5,none⟩ (.slice A5 (rowOf encD ds).len kA5)) _ _):=Hd (O318.out.put (i:=5) (v:=.slice A5 (rowOf encD ds).len kA5) (Nat.le_refl _))
          generalize (w314.setCell ⟨w4.heap.size,5,none⟩ (.slice A5 (rowOf encD ds).len kA5))=wz323 at K320 O321 O322 ⊢
          obtain ⟨y0,y1,y2,y3,y4,y5,yz⟩:=six_cells K320.out.loc
          have yf0:=yz 0
          have yf1:=yz 1
          have yf2:=yz 2
          have yf3:=yz 3
          have yf4:=yz 4
          have yf5:=yz 5
          clear yz
          obtain ⟨x0,x1,x2,x3,x4,x5,xz⟩:=six_cells K320.out.res
          have xf0:=xz 0
          have xf1:=xz 1
          have xf2:=xz 2
          have xf3:=xz 3
          have xf4:=xz 4
          have xf5:=xz 5
          clear xz
          go_wp2_with fail
          clear y0 y1 y2 y3 y4 y5 yf0 yf1 yf2 yf3 yf4 yf5 x0 x1 x2 x3 x4 x5 xf0 xf1 xf2 xf3 xf4 xf5
          obtain ⟨f1,f2,f3⟩:=S1.fin (ys:=[.string ⟨#[]⟩,.slice none 0 0,.string ⟨#[]⟩,.int .i64 0,.int .i64 0,.slice none 0 0]) K320.out [.string n,.slice AS nS kS,.string tn,.int .i64 (tl:Int),.int .i64 (tm:Int),.slice A5 (rowOf encD ds).len kA5] rfl
          have Fv:=O321.out.fin (w:=w) (Nat.le_of_lt K320.out.bl) [.string n,.slice AS nS kS,.string tn,.int .i64 (tl:Int),.int .i64 (tm:Int),.slice A5 (rowOf encD ds).len kA5]
          have Fd:=O322.out.fin (w:=w) (Nat.le_of_lt K320.out.bl) [.string n,.slice AS nS kS,.string tn,.int .i64 (tl:Int),.int .i64 (tm:Int),.slice A5 (rowOf encD ds).len kA5]
          have FP:=HQ.out _ _ (post_ok (a:=⟨n,VS,tn,tl,tm,ds⟩) (by simp only [fdR,E6.out,HE.out,E303.out,E310.out,E319.out,if_true]) ⟨[.string n,.slice AS nS kS,.string tn,.int .i64 (tl:Int),.int .i64 (tm:Int),.slice A5 (rowOf encD ds).len kA5],rfl,TS.str Nn.out (TS.row Fv (TS.str NT.out (TS.int (TS.int (TS.row Fd (TS.nil _ _))))))⟩ f2 f3)
          exact ret_st rfl rfl rfl f1 Tryz.underlying140 ⟨_,rfl⟩ (by kernel_rfl) FP
end Go.Proofs.YtkacnnhdfkpenaaGreatDoor
