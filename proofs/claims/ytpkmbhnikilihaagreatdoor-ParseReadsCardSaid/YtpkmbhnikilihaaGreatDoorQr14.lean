/- The landed selections, whole. -/
import Derived.Test.YtpkmbhnikilihaaGreatDoorQr13
set_option maxRecDepth 100000
set_option maxHeartbeats 8000000
namespace Go.Proofs.YtpkmbhnikilihaaGreatDoor
open Go.RowKit
theorem Aa (f d:Nat) (ts:List Tok) (r:Nat) (w:World) (HC:∀ tq wx,Xb tq→tq.length < ts.length→d+1≤16→Rd wx r tq (d+1)→KRd r wx→Calls Tryz.prog 172 #[.pointer (some ⟨r,0,none⟩)] wx (L8 r (d+1) wx (Gt Gk) (Zqc f (d+1) tq)))
   (hG:Xb ts) (hd:d≤16) (hR:Rd w r ts d) (hK:KRd r w):Calls Tryz.prog 96 #[.pointer (some ⟨r,0,none⟩)] w (L8 r d w (Zxh Z7) (Ft (f+1) d ts)):=by
 refine cQE (fun Q hQ=>?_)
 have hmf:∀ (fn:Fn) (first cap:Array Value) (w:World),(Instr.makeFunc fn first cap).run Tryz.prog w=.ok (.func fn first cap) w:=fun _ _ _ _=>rfl
 have HQ:=Hd hQ
 have HCC:=Hd HC
 have B0:=Hd (And.intro hR (And.intro hK hG))
 clear hQ hR hK hG HC
 go_enter Tryz.func96,Tryz.ntmps96
 go_wp2_with fail
 refine (Du r ts d omB _ (by omega) B0.out.1).mono ?_
 intro e w1 h
 cases hb:atB 1 omB ts with
 | false =>
   rw [hb] at h
   simp only [Bool.false_eq_true,if_false] at h
   obtain ⟨rfl,m⟩:=h
   exact ⟨rfl,HQ.out _ _ (per (by rw [Ft,hb];rfl) m)⟩
 | true =>
   rw [hb] at h
   simp only [if_true] at h
   by_cases h16:d=16
   · rw [if_pos h16] at h
     obtain ⟨rfl,m⟩:=h
     exact ⟨rfl,HQ.out _ _ (per (by rw [Ft,hb,if_pos rfl,if_pos h16]) m)⟩
   · rw [if_neg h16] at h
     obtain ⟨rfl,rr,mm⟩:=h
     have hl:=(Zf hb).2
     have R1:=Hd (And.intro rr mm)
     have G1:=Hd (B0.out.2.2.sub (Zf hb).1)
     have E1:=Hd (show Ft (f+1) d ts=El (Zqc f (d+1)) Zq7 cmB (ts.tail.length+1) .nil ts.tail by rw [Ft,hb,if_pos rfl,if_neg h16])
     have D1:=Hd (B0.out.2.1.moved mm)
     clear rr mm hb
     go_wp2_with fail
     refine (Yfo (Zqc f (d+1)) (fun _ _ _ h=>(Cx f).2 _ _ _ _ h) r (d+1) ts.tail w1 (fun tq wx g l hx hk _=>HCC.out tq wx g (by omega) (by omega) hx hk) G1.out R1.out.1 D1.out trivial).mono ?_
     intro e w2 h
     rw [← E1.out] at h
     cases hv:Ft (f+1) d ts with
     | error x =>
       rw [hv] at h
       obtain ⟨rfl,m⟩:=Yr h
       exact ⟨rfl,HQ.out _ _ (per hv (R1.out.2.trans m))⟩
     | ok p =>
       obtain ⟨l,ts2⟩:=p
       rw [hv] at h
       obtain ⟨⟨v,rfl,hly⟩,r2,m2⟩:=Jh h
       obtain ⟨A,c,rfl,hl2⟩:=Yx hly
       have F:=Hd (And.intro hl2 (And.intro r2 m2))
       have HV:=Hd hv
       clear h hv hly hl2 r2 m2
       go_wp2_with fail
       refine (Dt r ts2 d _ (by omega) F.out.2.1).mono ?_
       rintro e w3 ⟨rfl,r3,m3⟩
       have hr:=B0.out.1.lt
       have hs1:=R1.out.2.size
       have M3:=Hd ((R1.out.2.trans F.out.2.2).trans m3)
       have T3:=Hd (show TP w3 (Zs w w3) (.row (Z7 l)) (.slice A (Z7 l).len c) from TP.keep (fun k hk=>⟨⟨Nat.le_trans hs1 hk.1,Nat.lt_of_lt_of_le hk.2 m3.size⟩,m3.block k hk.2 (fun e=>by have:=hk.1;injection e;omega)⟩) _ _ F.out.1)
       have R3:=Hd r3
       clear r3 m3
       go_wp2_with fail
       exact HQ.out _ _ (X6 HV.out T3.out R3.out M3.out)
theorem Yj5:∀ f:Nat,(∀ (d:Nat) (ts:List Tok) (r:Nat) (w:World),2*ts.length+1≤f→Xb ts→d≤16→Rd w r ts d→KRd r w→Calls Tryz.prog 96 #[.pointer (some ⟨r,0,none⟩)] w (L8 r d w (Zxh Z7) (Ft f d ts))) ∧
   (∀ (d:Nat) (ts:List Tok) (r:Nat) (w:World),2*ts.length+2≤f→Xb ts→d≤16→Rd w r ts d→KRd r w→Calls Tryz.prog 172 #[.pointer (some ⟨r,0,none⟩)] w (L8 r d w (Gt Gk) (Zqc f d ts))):=by
 intro f
 induction f with
 | zero=>exact ⟨fun _ _ _ _ h=>by omega,fun _ _ _ _ h=>by omega⟩
 | succ f ih =>
   obtain ⟨i1,i2⟩:=ih
   refine ⟨fun d ts r w h hG hd hR hK=>Aa f d ts r w (fun tq wx g l hd hx hk=>i2 (d+1) tq r wx (by omega) g hd hx hk) hG hd hR hK,fun d ts r w h hG hd hR hK=>?_⟩
   rw [Zqc]
   exact R9 (Ft f d) (fun _ _ _ h=>(Cx f).1 _ _ _ _ h) d ts r w (fun tq wx g l hx hk=>i1 d tq r wx (by omega) g hd hx hk) hG hd hR hK
theorem Gd (d:Nat) (ts:List Tok) (r:Nat) (w:World) (hG:Xb ts) (hd:d≤16) (hR:Rd w r ts d) (hK:KRd r w):Calls Tryz.prog 96 #[.pointer (some ⟨r,0,none⟩)] w (L8 r d w (Zxh Z7) (X8 d ts)):=by
 have:=(Yj5 (2*ts.length+1)).1 d ts r w (Nat.le_refl _) hG hd hR hK
 rwa [show Ft (2*ts.length+1) d ts=X8 d ts from ((Bn _).1 _ _ _ (Nat.lt_succ_self _) (by omega)).symm] at this
theorem Yu {w:World} {b:Nat} {z0 z1 z2 z3 z4:Value} {t:TypeId} (h:w.heap[b]? = some (.cells #[z0,z1,z2,z3,z4] t (0,0))):w.cell? ⟨b,0,none⟩=some z0∧w.cell? ⟨b,1,none⟩=some z1∧w.cell? ⟨b,2,none⟩=some z2∧w.cell? ⟨b,3,none⟩=some z3∧w.cell? ⟨b,4,none⟩=some z4∧∀ i,w.frozen? ⟨b,i,none⟩=false:=by
 refine ⟨?_,?_,?_,?_,?_,fun i=>?_⟩
 all_goals first|(simp only [World.cell?,h];rfl)|simp [World.frozen?,h]
theorem Yhu (k:Int) (d:Nat) (ts:List Tok) (r:Nat) (w:World) (hG:Xb ts) (hd:d≤16) (hR:Rd w r ts d) (hK:KRd r w):Calls Tryz.prog 98 #[.pointer (some ⟨r,0,none⟩),.int .i64 k] w (L8 r d w (Gt Ya) (opR k d ts)):=by
 refine cQE (fun Q hQ=>?_)
 have HQ:=Hd hQ
 have hmf:∀ (fn:Fn) (first cap:Array Value) (w:World),(Instr.makeFunc fn first cap).run Tryz.prog w=.ok (.func fn first cap) w:=fun _ _ _ _=>rfl
 have L0:=Hd (List.suffix_refl ts)
 have K0:=Hd (S0.start hR hK #[.int .i64 0,.string ⟨#[]⟩,.slice none 0 0,.slice none 0 0,.slice none 0 0] 68)
 have G0:=Hd hG
 clear hQ hR hK hG
 go_enter Tryz.func98,Tryz.ntmps98
 go_wp2_with fail
 have K1:=Hd (S1.make1 K0.out #[.int .i64 k,.string ⟨#[]⟩,.slice none 0 0,.slice none 0 0,.slice none 0 0] 68)
 generalize (w.alloc (.cells #[.int .i64 0,.string ⟨#[]⟩,.slice none 0 0,.slice none 0 0,.slice none 0 0] 68)).alloc (.cells #[.int .i64 k,.string ⟨#[]⟩,.slice none 0 0,.slice none 0 0,.slice none 0 0] 68)=wa at K1 ⊢
 refine (Nb r ts d _ K1.out.rd).mono ?_
 intro e w2 h
 refine Or.elim (Bool.eq_false_or_eq_true (Cn ts)).symm (fun hb=>?_) (fun hb=>?_)
 focus
  rw [hb] at h
  obtain ⟨rfl,rfl⟩:=h
  have hn3:=Zq3 hb
  have E4:=Hd hn3
  clear hb hn3
  go_wp2_with fail
  have HE:Hid (opR k d ts=Jt k d (eB) (ts)):=Hd (by simp only [opR,E4.out])
  obtain ⟨NM,hNM⟩:∃ zz:ByteArray,eB=zz:=⟨_,rfl⟩
  obtain ⟨TQ,hTQ⟩:∃ zz:List Tok,ts=zz:=⟨_,rfl⟩
  have HE:Hid (opR k d ts=Jt k d NM TQ):=by rw [← hNM,← hTQ];exact HE
  have KJ:Hid (S1 w r wa (.cells #[.int .i64 0,.string ⟨#[]⟩,.slice none 0 0,.slice none 0 0,.slice none 0 0] 68 (0,0)) (w.heap.size+1) (.cells #[.int .i64 k,.string NM,.slice none 0 0,.slice none 0 0,.slice none 0 0] 68 (0,0)) TQ d):=by rw [← hNM,← hTQ];exact K1
  have GJ:Hid (Xb TQ):=by rw [← hTQ];exact G0
  have NB:Hid (NM.size≤9000):=Hd (by rw [← hNM];exact (Nat.zero_le _))
  clear hNM hTQ K1
  generalize wa=wj at KJ ⊢
 rotate_left
 focus
  rw [hb] at h
  obtain ⟨rfl,rfl⟩:=h
  obtain ⟨nm5,nt5,hn5⟩:=S7 hb
  have E6:=Hd hn5
  clear hb hn5
  go_wp2_with fail
  refine (Yd r (ts) d _ K1.out.rd).mono ?_
  intro e w7 h
  rw [E6.out] at h
  obtain ⟨rfl,rr,mm⟩:=h
  have Nnm5:=Hd (G0.out.name E6.out)
  have G8:=Hd (G0.out.sub (Zc E6.out).1)
  have L9:=Hd (((Zc E6.out).1).trans L0.out)
  have K10:=Hd (K1.out.next rr mm)
  clear rr mm
  obtain ⟨y0,y1,y2,y3,y4,yz⟩:=Yu K10.out.loc
  have yf0:=yz 0
  have yf1:=yz 1
  have yf2:=yz 2
  have yf3:=yz 3
  have yf4:=yz 4
  clear yz
  go_wp2_with fail
  clear y0 y1 y2 y3 y4 yf0 yf1 yf2 yf3 yf4
  have K11:Hid (S1 w r (w7.setCell ⟨w.heap.size+1,1,none⟩ (.string nm5)) _ (w.heap.size+1) (.cells #[.int .i64 k,.string nm5,.slice none 0 0,.slice none 0 0,.slice none 0 0] 68 (0,0)) _ d):=Hd (K10.out.put 1 (.string nm5))
  generalize (w7.setCell ⟨w.heap.size+1,1,none⟩ (.string nm5))=wz12 at K11 ⊢
  go_wp2_with fail
  have HE:Hid (opR k d ts=Jt k d (nm5) (nt5)):=Hd (by simp only [opR,E6.out])
  obtain ⟨NM,hNM⟩:∃ zz:ByteArray,nm5=zz:=⟨_,rfl⟩
  obtain ⟨TQ,hTQ⟩:∃ zz:List Tok,nt5=zz:=⟨_,rfl⟩
  have HE:Hid (opR k d ts=Jt k d NM TQ):=by rw [← hNM,← hTQ];exact HE
  have KJ:Hid (S1 w r wz12 (.cells #[.int .i64 0,.string ⟨#[]⟩,.slice none 0 0,.slice none 0 0,.slice none 0 0] 68 (0,0)) (w.heap.size+1) (.cells #[.int .i64 k,.string NM,.slice none 0 0,.slice none 0 0,.slice none 0 0] 68 (0,0)) TQ d):=by rw [← hNM,← hTQ];exact K11
  have GJ:Hid (Xb TQ):=by rw [← hTQ];exact G8
  have NB:Hid (NM.size≤9000):=Hd (by rw [← hNM];exact Nnm5.out)
  clear hNM hTQ K11
  generalize wz12=wj at KJ ⊢
 all_goals
  refine (Zv r TQ d 1 opB _ KJ.out.rd).mono ?_
  intro e w201 h
  refine Or.elim (Bool.eq_false_or_eq_true (atB 1 opB TQ)).symm (fun hb=>?_) (fun hb=>?_)
  focus
   rw [hb] at h
   obtain ⟨rfl,rr,mm⟩:=h
   rw [Vg hb] at rr
   have E202:=Hd hb
   have K203:=Hd (KJ.out.next rr mm)
   clear rr mm hb
   go_wp2_with fail
   have HE2:Hid (Jj d TQ=.ok ([],TQ)):=Hd (by simp only [Jj,E202.out,if_false,Bool.false_eq_true])
   obtain ⟨VS,hVS⟩:∃ zz:List Mw,[]=zz:=⟨_,rfl⟩
   obtain ⟨T2,hT2⟩:∃ zz:List Tok,TQ=zz:=⟨_,rfl⟩
   obtain ⟨AS,nS,kS,hSV⟩:∃ A n k,.slice none 0 0=Value.slice A n k:=⟨_,_,_,rfl⟩
   have HE2:Hid (Jj d TQ=.ok (VS,T2)):=by rw [← hVS,← hT2];exact HE2
   have KJ2:Hid (S1 w r w201 (.cells #[.int .i64 0,.string ⟨#[]⟩,.slice none 0 0,.slice none 0 0,.slice none 0 0] 68 (0,0)) (w.heap.size+1) (.cells #[.int .i64 k,.string NM,.slice AS nS kS,.slice none 0 0,.slice none 0 0] 68 (0,0)) T2 d):=by rw [← hT2,← hSV];exact K203
   have GJ2:Hid (Xb T2):=by rw [← hT2];exact GJ
   have OVJ:Hid (Ov (w.heap.size+1) w201 (.row (Z5 Y7 VS)) (.slice AS nS kS)):=by rw [← hVS,← hSV];exact Hd (TP.none _ _)
   clear hVS hT2 hSV K203
   generalize w201=wk at KJ2 OVJ ⊢
  rotate_left
  focus
   rw [hb] at h
   obtain ⟨rfl,rr,mm⟩:=h
   rw [Jl hb] at rr
   have G204:=Hd (GJ.out.sub (Zf hb).1)
   have E205:=Hd hb
   have K206:=Hd (KJ.out.next rr mm)
   clear rr mm hb
   go_wp2_with fail
   refine (Yew (Gs d) (fun _ _ _ h=>Oi h) r d (TQ.tail) _ (fun tq wx g _ hx hk _=>Zq4 d tq r wx g hd hx hk) G204.out K206.out.rd K206.out.k trivial).mono ?_
   intro e w207 h
   rcases hv:El (Gs d) Zqu cpB (((TQ.tail)).length+1) [] (TQ.tail) with x|p
   · skip
     rw [hv] at h
     obtain ⟨rfl,m⟩:=Yr h
     exact ⟨rfl,HQ.out _ _ (per (by simp only [Jt,Jj,HE.out,E205.out,hv,if_true]) (K206.out.mv.trans m))⟩
   obtain ⟨vs,tp207⟩:=p
   rw [hv] at h
   obtain ⟨⟨v,rfl,hl⟩,rr,mm⟩:=Jh h
   obtain ⟨A2,kA2,rfl,hts⟩:=Yx hl
   have G208:=Hd (G204.out.sub (At (fun _ _ _ h=>Oi h) _ _ _ _ _ hv).1)
   have K209:=Hd (K206.out.next rr mm)
   have O210:=Hd (Ov.of hts K206.out.blt)
   have E211:=Hd hv
   clear rr mm hv hl hts h
   obtain ⟨y0,y1,y2,y3,y4,yz⟩:=Yu K209.out.loc
   have yf0:=yz 0
   have yf1:=yz 1
   have yf2:=yz 2
   have yf3:=yz 3
   have yf4:=yz 4
   clear yz
   go_wp2_with fail
   clear y0 y1 y2 y3 y4 yf0 yf1 yf2 yf3 yf4
   have K212:Hid (S1 w r (w207.setCell ⟨w.heap.size+1,2,none⟩ (.slice A2 (Z5 Y7 vs).len kA2)) _ (w.heap.size+1) (.cells #[.int .i64 k,.string NM,.slice A2 (Z5 Y7 vs).len kA2,.slice none 0 0,.slice none 0 0] 68 (0,0)) _ d):=Hd (K209.out.put 2 (.slice A2 (Z5 Y7 vs).len kA2))
   have O213:Hid (Ov (w.heap.size+1) (w207.setCell ⟨w.heap.size+1,2,none⟩ (.slice A2 (Z5 Y7 vs).len kA2)) _ _):=Hd (O210.out.put (i:=2) (v:=.slice A2 (Z5 Y7 vs).len kA2) (Nat.le_refl _))
   generalize (w207.setCell ⟨w.heap.size+1,2,none⟩ (.slice A2 (Z5 Y7 vs).len kA2))=wz214 at K212 O213 ⊢
   have HE2:Hid (Jj d TQ=.ok (vs,tp207)):=Hd (by simp only [Jj,E205.out,E211.out,if_true])
   obtain ⟨VS,hVS⟩:∃ zz:List Mw,vs=zz:=⟨_,rfl⟩
   obtain ⟨T2,hT2⟩:∃ zz:List Tok,tp207=zz:=⟨_,rfl⟩
   obtain ⟨AS,nS,kS,hSV⟩:∃ A n k,.slice A2 (Z5 Y7 vs).len kA2=Value.slice A n k:=⟨_,_,_,rfl⟩
   have HE2:Hid (Jj d TQ=.ok (VS,T2)):=by rw [← hVS,← hT2];exact HE2
   have KJ2:Hid (S1 w r wz214 (.cells #[.int .i64 0,.string ⟨#[]⟩,.slice none 0 0,.slice none 0 0,.slice none 0 0] 68 (0,0)) (w.heap.size+1) (.cells #[.int .i64 k,.string NM,.slice AS nS kS,.slice none 0 0,.slice none 0 0] 68 (0,0)) T2 d):=by rw [← hT2,← hSV];exact K212
   have GJ2:Hid (Xb T2):=by rw [← hT2];exact G208
   have OVJ:Hid (Ov (w.heap.size+1) wz214 (.row (Z5 Y7 VS)) (.slice AS nS kS)):=by rw [← hVS,← hSV];exact O213
   clear hVS hT2 hSV K212
   generalize wz214=wk at KJ2 OVJ ⊢
  all_goals
   refine (Es true d (T2) r _ GJ2.out hd KJ2.out.rd KJ2.out.k).mono ?_
   intro e w301 h
   cases hv:Zp true d (T2) with
   | error x =>
     rw [hv] at h
     obtain ⟨rfl,m⟩:=Yr h
     exact ⟨rfl,HQ.out _ _ (per (by simp only [Jt,HE.out,HE2.out,hv]) (KJ2.out.mv.trans m))⟩
   | ok p =>
     obtain ⟨ds,tp301⟩:=p
     rw [hv] at h
     obtain ⟨⟨v,rfl,hl⟩,rr,mm⟩:=Jh h
     obtain ⟨A3,kA3,rfl,hts⟩:=Yx hl
     have G302:=Hd (GJ2.out.sub (Yj hv))
     have K303:=Hd (KJ2.out.next rr mm)
     have O304:=Hd (OVJ.out.next mm KJ2.out.rb)
     have O305:=Hd (Ov.of hts KJ2.out.blt)
     have E306:=Hd hv
     clear rr mm hv hl hts h
     obtain ⟨y0,y1,y2,y3,y4,yz⟩:=Yu K303.out.loc
     have yf0:=yz 0
     have yf1:=yz 1
     have yf2:=yz 2
     have yf3:=yz 3
     have yf4:=yz 4
     clear yz
     go_wp2_with fail
     clear y0 y1 y2 y3 y4 yf0 yf1 yf2 yf3 yf4
     have K307:Hid (S1 w r (w301.setCell ⟨w.heap.size+1,3,none⟩ (.slice A3 (Z5 Xc ds).len kA3)) _ (w.heap.size+1) (.cells #[.int .i64 k,.string NM,.slice AS nS kS,.slice A3 (Z5 Xc ds).len kA3,.slice none 0 0] 68 (0,0)) _ d):=Hd (K303.out.put 3 (.slice A3 (Z5 Xc ds).len kA3))
     have O308:Hid (Ov (w.heap.size+1) (w301.setCell ⟨w.heap.size+1,3,none⟩ (.slice A3 (Z5 Xc ds).len kA3)) _ _):=Hd (O304.out.put (i:=3) (v:=.slice A3 (Z5 Xc ds).len kA3) (Nat.le_refl _))
     have O309:Hid (Ov (w.heap.size+1) (w301.setCell ⟨w.heap.size+1,3,none⟩ (.slice A3 (Z5 Xc ds).len kA3)) _ _):=Hd (O305.out.put (i:=3) (v:=.slice A3 (Z5 Xc ds).len kA3) (Nat.le_refl _))
     generalize (w301.setCell ⟨w.heap.size+1,3,none⟩ (.slice A3 (Z5 Xc ds).len kA3))=wz310 at K307 O308 O309 ⊢
     refine (Gd d (tp301) r _ G302.out hd K307.out.rd K307.out.k).mono ?_
     intro e w311 h
     cases hv:X8 d (tp301) with
     | error x =>
       rw [hv] at h
       obtain ⟨rfl,m⟩:=Yr h
       exact ⟨rfl,HQ.out _ _ (per (by simp only [Jt,HE.out,HE2.out,E306.out,hv]) (K307.out.mv.trans m))⟩
     | ok p =>
       obtain ⟨sq,tp311⟩:=p
       rw [hv] at h
       obtain ⟨⟨v,rfl,hl⟩,rr,mm⟩:=Jh h
       obtain ⟨A4,kA4,rfl,hts⟩:=Yx hl
       have G312:=Hd (G302.out.sub (Iy hv).1)
       have K313:=Hd (K307.out.next rr mm)
       have O314:=Hd (O308.out.next mm K307.out.rb)
       have O315:=Hd (O309.out.next mm K307.out.rb)
       have O316:=Hd (Ov.of hts K307.out.blt)
       have E317:=Hd hv
       clear rr mm hv hl hts h
       obtain ⟨y0,y1,y2,y3,y4,yz⟩:=Yu K313.out.loc
       have yf0:=yz 0
       have yf1:=yz 1
       have yf2:=yz 2
       have yf3:=yz 3
       have yf4:=yz 4
       clear yz
       obtain ⟨x0,x1,x2,x3,x4,xz⟩:=Yu K313.out.res
       have xf0:=xz 0
       have xf1:=xz 1
       have xf2:=xz 2
       have xf3:=xz 3
       have xf4:=xz 4
       clear xz
       go_wp2_with fail
       clear y0 y1 y2 y3 y4 yf0 yf1 yf2 yf3 yf4 x0 x1 x2 x3 x4 xf0 xf1 xf2 xf3 xf4
       have K318:Hid (S1 w r (w311.setCell ⟨w.heap.size+1,4,none⟩ (.slice A4 (Z7 sq).len kA4)) _ (w.heap.size+1) (.cells #[.int .i64 k,.string NM,.slice AS nS kS,.slice A3 (Z5 Xc ds).len kA3,.slice A4 (Z7 sq).len kA4] 68 (0,0)) _ d):=Hd (K313.out.put 4 (.slice A4 (Z7 sq).len kA4))
       have O319:Hid (Ov (w.heap.size+1) (w311.setCell ⟨w.heap.size+1,4,none⟩ (.slice A4 (Z7 sq).len kA4)) _ _):=Hd (O314.out.put (i:=4) (v:=.slice A4 (Z7 sq).len kA4) (Nat.le_refl _))
       have O320:Hid (Ov (w.heap.size+1) (w311.setCell ⟨w.heap.size+1,4,none⟩ (.slice A4 (Z7 sq).len kA4)) _ _):=Hd (O315.out.put (i:=4) (v:=.slice A4 (Z7 sq).len kA4) (Nat.le_refl _))
       have O321:Hid (Ov (w.heap.size+1) (w311.setCell ⟨w.heap.size+1,4,none⟩ (.slice A4 (Z7 sq).len kA4)) _ _):=Hd (O316.out.put (i:=4) (v:=.slice A4 (Z7 sq).len kA4) (Nat.le_refl _))
       obtain ⟨f1,f2,f3⟩:=S1.fin (ys:=[.int .i64 0,.string ⟨#[]⟩,.slice none 0 0,.slice none 0 0,.slice none 0 0]) K318.out [.int .i64 k,.string NM,.slice AS nS kS,.slice A3 (Z5 Xc ds).len kA3,.slice A4 (Z7 sq).len kA4] rfl
       have Fv:=O319.out.fin (w:=w) (Nat.le_of_lt K318.out.bl) [.int .i64 k,.string NM,.slice AS nS kS,.slice A3 (Z5 Xc ds).len kA3,.slice A4 (Z7 sq).len kA4]
       have Fd:=O320.out.fin (w:=w) (Nat.le_of_lt K318.out.bl) [.int .i64 k,.string NM,.slice AS nS kS,.slice A3 (Z5 Xc ds).len kA3,.slice A4 (Z7 sq).len kA4]
       have Fs:=O321.out.fin (w:=w) (Nat.le_of_lt K318.out.bl) [.int .i64 k,.string NM,.slice AS nS kS,.slice A3 (Z5 Xc ds).len kA3,.slice A4 (Z7 sq).len kA4]
       have FP:=HQ.out _ _ (X6 (a:=⟨k,NM,VS,ds,sq⟩) (by simp only [Jt,HE.out,HE2.out,E306.out,E317.out]) ⟨[.int .i64 k,.string NM,.slice AS nS kS,.slice A3 (Z5 Xc ds).len kA3,.slice A4 (Z7 sq).len kA4],rfl,TS.int (TS.str NB.out (TS.row Fv (TS.row Fd (TS.row Fs (TS.nil _ _)))))⟩ f2 f3)
       exact Y8 rfl rfl rfl f1 Tryz.underlying68 ⟨_,rfl⟩ (by kernel_rfl) FP
theorem Dh (d:Nat) (ts:List Tok) (r:Nat) (w:World) (hG:Xb ts) (hd:d≤16) (hR:Rd w r ts d) (hK:KRd r w):Calls Tryz.prog 99 #[.pointer (some ⟨r,0,none⟩)] w (L8 r d w (Gt Ur) (Ud d ts)):=by
 refine cQE (fun Q hQ=>?_)
 have HQ:=Hd hQ
 have K0:=Hd (S0.start hR hK #[.string ⟨#[]⟩,.string ⟨#[]⟩,.slice none 0 0,.slice none 0 0] 87)
 have G0:=Hd hG
 clear hQ hR hK hG
 go_enter Tryz.func99,Tryz.ntmps99
 go_wp2_with fail
 refine (U6 r ts d 2 onB _ K0.out.rd).mono ?_
 intro e w1 h
 cases hb:atB 2 onB ts with
 | true =>
   rw [hb] at h
   obtain ⟨rfl,rfl⟩:=h
   have E2:=Hd hb
   clear hb
   go_wp2_with fail
   exact ⟨rfl,HQ.out _ _ (per (by simp only [Ud,E2.out,if_true]) K0.out.mv)⟩
 | false =>
   rw [hb] at h
   obtain ⟨rfl,rfl⟩:=h
   have E3:=Hd hb
   clear hb
   go_wp2_with fail
   refine (Yd r (ts) d _ K0.out.rd).mono ?_
   intro e w4 h
   cases hn:Zb (ts) with
   | none =>
     rw [hn] at h
     obtain ⟨rfl,m⟩:=h
     exact ⟨rfl,HQ.out _ _ (per (by simp only [Ud,E3.out,hn,if_false,Bool.false_eq_true]) (K0.out.mv.trans m))⟩
   | some p =>
     obtain ⟨n,tn4⟩:=p
     rw [hn] at h
     obtain ⟨rfl,rr,mm⟩:=h
     have Nn:=Hd (G0.out.name hn)
     have G5:=Hd (G0.out.sub (Zc hn).1)
     have E6:=Hd hn
     have K7:=Hd (K0.out.next rr mm)
     clear rr mm hn
     go_wp2_with fail
     have K8:=Hd (S1.make K7.out #[.string n,.string ⟨#[]⟩,.slice none 0 0,.slice none 0 0] 87)
     refine (Iq r tn4 d 2 onB _ K8.out.rd).mono ?_
     intro e w9 h
     cases hb:atB 2 onB tn4 with
     | false =>
       rw [hb] at h
       simp only [Bool.false_eq_true,if_false] at h
       obtain ⟨rfl,m⟩:=h
       exact ⟨rfl,HQ.out _ _ (per (by simp only [Ud,E3.out,E6.out,hb,if_false,Bool.false_eq_true]) (K8.out.mv.trans m))⟩
     | true =>
       rw [hb] at h
       simp only [if_true] at h
       obtain ⟨rfl,rr,mm⟩:=h
       have G10:=Hd (G5.out.sub (Zf hb).1)
       have E11:=Hd hb
       have K12:=Hd (K8.out.next rr mm)
       clear rr mm hb
       go_wp2_with fail
       refine (Yd r (tn4.tail) d _ K12.out.rd).mono ?_
       intro e w13 h
       cases hn:Zb (tn4.tail) with
       | none =>
         rw [hn] at h
         obtain ⟨rfl,m⟩:=h
         exact ⟨rfl,HQ.out _ _ (per (by simp only [Ud,E3.out,E6.out,E11.out,hn,if_true,if_false,Bool.false_eq_true]) (K12.out.mv.trans m))⟩
       | some p =>
         obtain ⟨o,tn13⟩:=p
         rw [hn] at h
         obtain ⟨rfl,rr,mm⟩:=h
         have No:=Hd (G10.out.name hn)
         have G14:=Hd (G10.out.sub (Zc hn).1)
         have E15:=Hd hn
         have K16:=Hd (K12.out.next rr mm)
         clear rr mm hn
         obtain ⟨y0,y1,y2,y3,yz⟩:=Z8 K16.out.loc
         have yf0:=yz 0
         have yf1:=yz 1
         have yf2:=yz 2
         have yf3:=yz 3
         clear yz
         go_wp2_with fail
         clear y0 y1 y2 y3 yf0 yf1 yf2 yf3
         have K17:Hid (S1 w r (w13.setCell ⟨w4.heap.size,1,none⟩ (.string o)) _ (w4.heap.size) (.cells #[.string n,.string o,.slice none 0 0,.slice none 0 0] 87 (0,0)) _ d):=Hd (K16.out.put 1 (.string o))
         generalize (w13.setCell ⟨w4.heap.size,1,none⟩ (.string o))=wz18 at K17 ⊢
         refine (Es true d (tn13) r _ G14.out hd K17.out.rd K17.out.k).mono ?_
         intro e w19 h
         cases hv:Zp true d (tn13) with
         | error x =>
           rw [hv] at h
           obtain ⟨rfl,m⟩:=Yr h
           exact ⟨rfl,HQ.out _ _ (per (by simp only [Ud,E3.out,E6.out,E11.out,E15.out,hv,if_true,if_false,Bool.false_eq_true]) (K17.out.mv.trans m))⟩
         | ok p =>
           obtain ⟨ds,tp19⟩:=p
           rw [hv] at h
           obtain ⟨⟨v,rfl,hl⟩,rr,mm⟩:=Jh h
           obtain ⟨A2,kA2,rfl,hts⟩:=Yx hl
           have G20:=Hd (G14.out.sub (Yj hv))
           have K21:=Hd (K17.out.next rr mm)
           have O22:=Hd (Ov.of hts K17.out.blt)
           have E23:=Hd hv
           clear rr mm hv hl hts h
           obtain ⟨y0,y1,y2,y3,yz⟩:=Z8 K21.out.loc
           have yf0:=yz 0
           have yf1:=yz 1
           have yf2:=yz 2
           have yf3:=yz 3
           clear yz
           go_wp2_with fail
           clear y0 y1 y2 y3 yf0 yf1 yf2 yf3
           have K24:Hid (S1 w r (w19.setCell ⟨w4.heap.size,2,none⟩ (.slice A2 (Z5 Xc ds).len kA2)) _ (w4.heap.size) (.cells #[.string n,.string o,.slice A2 (Z5 Xc ds).len kA2,.slice none 0 0] 87 (0,0)) _ d):=Hd (K21.out.put 2 (.slice A2 (Z5 Xc ds).len kA2))
           have O25:Hid (Ov (w4.heap.size) (w19.setCell ⟨w4.heap.size,2,none⟩ (.slice A2 (Z5 Xc ds).len kA2)) _ _):=Hd (O22.out.put (i:=2) (v:=.slice A2 (Z5 Xc ds).len kA2) (Nat.le_refl _))
           generalize (w19.setCell ⟨w4.heap.size,2,none⟩ (.slice A2 (Z5 Xc ds).len kA2))=wz26 at K24 O25 ⊢
           refine (Gd d (tp19) r _ G20.out hd K24.out.rd K24.out.k).mono ?_
           intro e w27 h
           cases hv:X8 d (tp19) with
           | error x =>
             rw [hv] at h
             obtain ⟨rfl,m⟩:=Yr h
             exact ⟨rfl,HQ.out _ _ (per (by simp only [Ud,E3.out,E6.out,E11.out,E15.out,E23.out,hv,if_true,if_false,Bool.false_eq_true]) (K24.out.mv.trans m))⟩
           | ok p =>
             obtain ⟨sq,tp27⟩:=p
             rw [hv] at h
             obtain ⟨⟨v,rfl,hl⟩,rr,mm⟩:=Jh h
             obtain ⟨A3,kA3,rfl,hts⟩:=Yx hl
             have G28:=Hd (G20.out.sub (Iy hv).1)
             have K29:=Hd (K24.out.next rr mm)
             have O30:=Hd (O25.out.next mm K24.out.rb)
             have O31:=Hd (Ov.of hts K24.out.blt)
             have E32:=Hd hv
             clear rr mm hv hl hts h
             obtain ⟨y0,y1,y2,y3,yz⟩:=Z8 K29.out.loc
             have yf0:=yz 0
             have yf1:=yz 1
             have yf2:=yz 2
             have yf3:=yz 3
             clear yz
             go_upto_region 8 with fail
             clear y0 y1 y2 y3 yf0 yf1 yf2 yf3
             have K33:Hid (S1 w r (w27.setCell ⟨w4.heap.size,3,none⟩ (.slice A3 (Z7 sq).len kA3)) _ (w4.heap.size) (.cells #[.string n,.string o,.slice A2 (Z5 Xc ds).len kA2,.slice A3 (Z7 sq).len kA3] 87 (0,0)) _ d):=Hd (K29.out.put 3 (.slice A3 (Z7 sq).len kA3))
             have O34:Hid (Ov (w4.heap.size) (w27.setCell ⟨w4.heap.size,3,none⟩ (.slice A3 (Z7 sq).len kA3)) _ _):=Hd (O30.out.put (i:=3) (v:=.slice A3 (Z7 sq).len kA3) (Nat.le_refl _))
             have O35:Hid (Ov (w4.heap.size) (w27.setCell ⟨w4.heap.size,3,none⟩ (.slice A3 (Z7 sq).len kA3)) _ _):=Hd (O31.out.put (i:=3) (v:=.slice A3 (Z7 sq).len kA3) (Nat.le_refl _))
             generalize (w27.setCell ⟨w4.heap.size,3,none⟩ (.slice A3 (Z7 sq).len kA3))=wz36 at K33 O34 O35 ⊢
             obtain ⟨y0,y1,y2,y3,yz⟩:=Z8 K33.out.loc
             have yf0:=yz 0
             have yf1:=yz 1
             have yf2:=yz 2
             have yf3:=yz 3
             clear yz
             obtain ⟨x0,x1,x2,x3,xz⟩:=Z8 K33.out.res
             have xf0:=xz 0
             have xf1:=xz 1
             have xf2:=xz 2
             have xf3:=xz 3
             clear xz
             go_wp2_with fail
             clear y0 y1 y2 y3 yf0 yf1 yf2 yf3 x0 x1 x2 x3 xf0 xf1 xf2 xf3
             obtain ⟨f1,f2,f3⟩:=S1.fin (ys:=[.string ⟨#[]⟩,.string ⟨#[]⟩,.slice none 0 0,.slice none 0 0]) K33.out [.string n,.string o,.slice A2 (Z5 Xc ds).len kA2,.slice A3 (Z7 sq).len kA3] rfl
             have Fd:=O34.out.fin (w:=w) (Nat.le_of_lt K33.out.bl) [.string n,.string o,.slice A2 (Z5 Xc ds).len kA2,.slice A3 (Z7 sq).len kA3]
             have Fs:=O35.out.fin (w:=w) (Nat.le_of_lt K33.out.bl) [.string n,.string o,.slice A2 (Z5 Xc ds).len kA2,.slice A3 (Z7 sq).len kA3]
             have FP:=HQ.out _ _ (X6 (a:=⟨n,o,ds,sq⟩) (by simp only [Ud,E3.out,E6.out,E11.out,E15.out,E23.out,E32.out,if_true,if_false,Bool.false_eq_true]) ⟨[.string n,.string o,.slice A2 (Z5 Xc ds).len kA2,.slice A3 (Z7 sq).len kA3],rfl,TS.str Nn.out (TS.str No.out (TS.row Fd (TS.row Fs (TS.nil _ _))))⟩ f2 f3)
             exact Y8 rfl rfl rfl f1 Tryz.underlying87 ⟨_,rfl⟩ (by kernel_rfl) FP
structure RX (ty:TypeId) (n base:Nat) (W:World) (V:Value) (l:TrL) (xs:List Value) (P X:Nat→Prop):Prop where
 own:W.ownsRow base ty n V l.len xs
 val:TLV W P l xs
 bd:∀ b,P b→base≤b∧b < W.heap.size∧V.ownBlock ≠ some b
 inX:∀ b,(P b∨V.ownBlock=some b)→X b
theorem RX.next {ty:TypeId} {n base r:Nat} {W W':World} {V:Value} {l:TrL} {xs:List Value} {P X:Nat→Prop} (h:RX ty n base W V l xs P X) (m:Z0 r W W') (hr:r < base):RX ty n base W' V l xs P X:=
 ⟨Xu h.own m hr,h.val.keep (fun b hb=>⟨hb,m.block b (h.bd b hb).2.1 (fun e=>by have:=(h.bd b hb).1;injection e;omega)⟩),fun b hb=>⟨(h.bd b hb).1,Nat.lt_of_lt_of_le (h.bd b hb).2.1 m.size,(h.bd b hb).2.2⟩,h.inX⟩
theorem RX.other {ty:TypeId} {n base:Nat} {W W':World} {V:Value} {l:TrL} {xs:List Value} {P X:Nat→Prop} {k:Option Nat} (h:RX ty n base W V l xs P X) (hg:W.grownBy W' k) (hk:∀ b,k=some b→¬ X b):RX ty n base W' V l xs P X:=by
 refine ⟨World.ownsRow.kept h.own hg ?_,h.val.keep (fun b hb=>⟨hb,hg.block b (h.bd b hb).2.1 (fun e=>hk b e.symm (h.inX b (.inl hb)))⟩),fun b hb=>⟨(h.bd b hb).1,Nat.lt_of_lt_of_le (h.bd b hb).2.1 hg.size,(h.bd b hb).2.2⟩,h.inX⟩
 cases e:V.ownBlock with
 | none=>exact .inl rfl
 | some b=>exact .inr (fun e'=>hk b e'.symm (h.inX b (.inr e)))
theorem RX.start (ty:TypeId) (n base:Nat) (W:World):RX ty n base W (.slice none 0 0) .nil [] (fun _=>False) (fun _=>False):=
 ⟨World.ownsRow_nil _ _ _ _,rfl,fun _ h=>h.elim,fun _ h=>by rcases h with h|h;exact h;cases h⟩
theorem RX.app {ty:TypeId} {n base r cap g:Nat} {w2 w3 w4:World} {V:Value} {l:TrL} {s:TrS} {o:Obj} {xs cs:List Value} {P X:Nat→Prop} (h:RX ty n base w2 V l xs P X) (hbase:base≤w2.heap.size) (m:Z0 r w2 w3) (hr:r < base)
   (hd:TS w3 (fun b=>w2.heap.size≤b∧b < w3.heap.size) s cs) (hown4:w4.ownsRow base ty n (.slice (some ⟨g,0,none⟩) (l.len+1) cap) (l.len+1) (xs++cs)) (hg:(w3.alloc o).grownBy w4 V.ownBlock) (hat:V.ownBlock=some g∨g=(w3.alloc o).heap.size) :
   ∃ P',RX ty n base w4 (.slice (some ⟨g,0,none⟩) (l.len+1) cap) (l.snoc s) (xs++cs) P' (fun b=>X b∨(w2.heap.size≤b∧b < w4.heap.size)):=by
 have hs:=m.size
 have hV:∀ k,V.ownBlock=some k→k < w2.heap.size:=fun k hk=>(h.own.lt k hk).2
 obtain ⟨h1,_,h3⟩:=Vv (wr:=w3) (w2:=w3) (w4:=w4) (V:=V) (g:=g) (o:=o) (P:=fun b=>P b∨(w2.heap.size≤b∧b < w3.heap.size)) (base:=base) (Nat.le_trans hbase hs) (fun k hk=>Nat.lt_of_lt_of_le (hV k hk) hs) (fun b hb=>by
   rcases hb with hb|hb
   · exact ⟨(h.bd b hb).1,Nat.lt_of_lt_of_le (h.bd b hb).2.1 hs,(h.bd b hb).2.2⟩
   · exact ⟨Nat.le_trans hbase hb.1,hb.2,fun e=>by have:=hV b e;omega⟩) (Below.refl _ _) hg hat
 have ha:(w3.alloc o).heap.size=w3.heap.size+1:=by simp
 have hs4:=hg.size
 refine ⟨_,by rw [TrL.snoc_len];exact hown4,TLV.snoc (TS.keep (fun b hb=>h1 b (.inr hb)) _ _ hd) ((h.val.keep (P':=fun b=>P b∨(w2.heap.size≤b∧b < w3.heap.size)) (fun b hb=>⟨.inl hb,m.block b (h.bd b hb).2.1 (fun e=>by have:=(h.bd b hb).1;injection e;omega)⟩)).keep h1),h3,fun b hb=>?_⟩
 rcases hb with hb|hb
 · have h5:=h3 b hb
   rcases hb with (hPb|hPb)|hPb
   · exact .inl (h.inX b (.inl hPb))
   · exact .inr ⟨hPb.1,h5.2.1⟩
   · have h6:=hPb.1;have h7:=hPb.2;omega
 · have hgb:g=b:=by
     have:(Value.slice (some ⟨g,0,none⟩) (l.len+1) cap).ownBlock=some g:=rfl
     rw [this] at hb;exact Option.some.inj hb
   subst hgb
   rcases hat with hat|hat
   · exact .inl (h.inX g (.inr hat))
   · exact .inr ⟨by omega,(hown4.lt g rfl).2⟩
abbrev Ynh:Obj:=.cells #[.slice none 0 0,.slice none 0 0] 26
abbrev Ybn (V1 V2:Value):Obj:=.cells #[V1,V2] 26
structure DK (w:World) (r:Nat) (W:World) (V1 V2:Value) (D:Vs) (xs1 xs2:List Value) (P1 X1 P2 X2:Nat→Prop):Prop where
 res:W.heap[w.heap.size]? = some Ynh
 loc:W.heap[w.heap.size+1]? = some (Ybn V1 V2)
 r1:RX 68 5 (w.heap.size+2) W V1 (Z5 Ya D.ops) xs1 P1 X1
 r2:RX 87 4 (w.heap.size+2) W V2 (Z5 Ur D.frags) xs2 P2 X2
 dis:∀ b,X1 b→X2 b→False
 b1:∀ b,X1 b→w.heap.size+2≤b∧b < W.heap.size
 b2:∀ b,X2 b→w.heap.size+2≤b∧b < W.heap.size
 mv:Z0 r w W
 hr:r < w.heap.size
 lt:w.heap.size+2≤W.heap.size
theorem DK.start (w:World) (r:Nat) (hr:r < w.heap.size):DK w r ((w.alloc Ynh).alloc (Ybn (.slice none 0 0) (.slice none 0 0))) (.slice none 0 0) (.slice none 0 0) ⟨[],[]⟩ [] [] (fun _=>False) (fun _=>False) (fun _=>False) (fun _=>False):=
 ⟨(Below.heap_alloc _ _ _ (by simp)).trans (heap_alloc_new _ _),heap_alloc2_new _ _ _,RX.start _ _ _ _,RX.start _ _ _ _,fun _ h=>h.elim,fun _ h=>h.elim,fun _ h=>h.elim,(Z0.of_below (blw _ _)).trans (Z0.of_below (blw _ _)),hr,by simp⟩
theorem DK.next {w:World} {r:Nat} {W W':World} {V1 V2:Value} {D:Vs} {xs1 xs2:List Value} {P1 X1 P2 X2:Nat→Prop} (h:DK w r W V1 V2 D xs1 xs2 P1 X1 P2 X2) (m:Z0 r W W'):DK w r W' V1 V2 D xs1 xs2 P1 X1 P2 X2:=
 ⟨m.keep h.res (by have:=h.hr;omega),m.keep h.loc (by have:=h.hr;omega),h.r1.next m (by have:=h.hr;omega),h.r2.next m (by have:=h.hr;omega),h.dis,fun b hb=>⟨(h.b1 b hb).1,Nat.lt_of_lt_of_le (h.b1 b hb).2 m.size⟩,fun b hb=>⟨(h.b2 b hb).1,Nat.lt_of_lt_of_le (h.b2 b hb).2 m.size⟩,h.mv.trans m,h.hr,Nat.le_trans h.lt m.size⟩
theorem DK.grown {w:World} {r:Nat} {w3 w4:World} {V1 V2:Value} {D:Vs} {xs1 xs2:List Value} {P1 X1 P2 X2:Nat→Prop} {o:Obj} {k:Option Nat} (h:DK w r w3 V1 V2 D xs1 xs2 P1 X1 P2 X2) (hg:(w3.alloc o).grownBy w4 k) (hk:∀ b,k=some b→w.heap.size+2≤b) :
   w4.heap[w.heap.size]? = some Ynh∧w4.heap[w.heap.size+1]? = some (Ybn V1 V2)∧Z0 r w w4∧w.heap.size+2≤w4.heap.size:=by
 have hlt:=h.lt
 have ha:(w3.alloc o).heap.size=w3.heap.size+1:=by simp
 have hs:=hg.size
 refine ⟨?_,?_,?_,by omega⟩
 · rw [hg.block _ (by omega) (fun e=>by have:=hk _ e.symm;omega),Below.heap_alloc _ _ _ (by omega)];exact h.res
 · rw [hg.block _ (by omega) (fun e=>by have:=hk _ e.symm;omega),Below.heap_alloc _ _ _ (by omega)];exact h.loc
 · have m:=h.mv.trans (Z0.of_below (blw w3 o))
   exact ⟨hg.os.trans m.os,hg.tape.trans m.tape,hg.output.trans m.output,Nat.le_trans m.size hg.size,fun j hj hn=>(hg.block j (Nat.lt_of_lt_of_le hj m.size) (fun e=>by have:=hk _ e.symm;omega)).trans (m.block j hj hn)⟩
theorem DK.own1 {w:World} {r:Nat} {W:World} {V1 V2:Value} {D:Vs} {xs1 xs2:List Value} {P1 X1 P2 X2:Nat→Prop} (h:DK w r W V1 V2 D xs1 xs2 P1 X1 P2 X2):∀ b,V1.ownBlock=some b→w.heap.size+2≤b:=fun b hb=>(h.b1 b (h.r1.inX b (.inr hb))).1
theorem DK.own2 {w:World} {r:Nat} {W:World} {V1 V2:Value} {D:Vs} {xs1 xs2:List Value} {P1 X1 P2 X2:Nat→Prop} (h:DK w r W V1 V2 D xs1 xs2 P1 X1 P2 X2):∀ b,V2.ownBlock=some b→w.heap.size+2≤b:=fun b hb=>(h.b2 b (h.r2.inX b (.inr hb))).1
theorem DK.app1 {w:World} {r g cap:Nat} {w2 w3 w4:World} {V1 V2:Value} {D:Vs} {xs1 xs2:List Value} {P1 X1 P2 X2:Nat→Prop} {o:Obj} {x:OpT} {cs:List Value} (h:DK w r w2 V1 V2 D xs1 xs2 P1 X1 P2 X2) (m:Z0 r w2 w3) (hd:TS w3 (Zs w2 w3) (Ya x) cs)
   (hown4:w4.ownsRow (w.heap.size+2) 68 5 (.slice (some ⟨g,0,none⟩) ((Z5 Ya D.ops).len+1) cap) ((Z5 Ya D.ops).len+1) (xs1++cs)) (hg:(w3.alloc o).grownBy w4 V1.ownBlock) (hat:V1.ownBlock=some g∨g=(w3.alloc o).heap.size) :
   ∃ P',DK w r (w4.setCell ⟨w.heap.size+1,0,none⟩ (.slice (some ⟨g,0,none⟩) ((Z5 Ya D.ops).len+1) cap)) (.slice (some ⟨g,0,none⟩) ((Z5 Ya D.ops).len+1) cap) V2 ⟨D.ops++[x],D.frags⟩ (xs1++cs) xs2 P' (fun b=>X1 b∨(w2.heap.size≤b∧b < w4.heap.size)) P2 X2:=by
 have h3:=h.next m
 have hr:=h.hr
 obtain ⟨P',hR⟩:=h.r1.app h.lt m (by omega) hd hown4 hg hat
 obtain ⟨q0,q1,q2,q3⟩:=h3.grown hg h3.own1
 have hsz:∀ v,(w4.setCell ⟨w.heap.size+1,0,none⟩ v).heap.size=w4.heap.size:=fun v=>by simp [World.setCell]
 have hs:=m.size
 have ha:(w3.alloc o).heap.size=w3.heap.size+1:=by simp
 have hs4:=hg.size
 have hR2:=(h3.r2.other (World.grownBy_alloc w3 o none) (fun _ e=>by cases e)).other hg (fun b e hx=>h.dis b (h.r1.inX b (.inr e)) hx)
 refine ⟨P',V9 q0 (by omega),heap_setCell_same _ _ 0 _ _ _ q1,?_,hR2.next (Z0.set (r:=w.heap.size+1)) (by omega),?_,fun b hb=>?_,fun b hb=>?_,q2.put (by omega),hr,by rw [hsz];exact q3⟩
 · rw [show Z5 Ya (D.ops++[x])=(Z5 Ya D.ops).snoc (Ya x) from Xa _ _ _]
   exact hR.next (Z0.set (r:=w.heap.size+1)) (by omega)
 · intro b hb hx
   rcases hb with hb|hb
   · exact h.dis b hb hx
   · have:=(h.b2 b hx).2;omega
 · rw [hsz]
   rcases hb with hb|hb
   · have:=h.b1 b hb;omega
   · have:=h.lt;omega
 · rw [hsz];have:=h.b2 b hb;omega
theorem DK.app2 {w:World} {r g cap:Nat} {w2 w3 w4:World} {V1 V2:Value} {D:Vs} {xs1 xs2:List Value} {P1 X1 P2 X2:Nat→Prop} {o:Obj} {x:Ql} {cs:List Value} (h:DK w r w2 V1 V2 D xs1 xs2 P1 X1 P2 X2) (m:Z0 r w2 w3) (hd:TS w3 (Zs w2 w3) (Ur x) cs)
   (hown4:w4.ownsRow (w.heap.size+2) 87 4 (.slice (some ⟨g,0,none⟩) ((Z5 Ur D.frags).len+1) cap) ((Z5 Ur D.frags).len+1) (xs2++cs)) (hg:(w3.alloc o).grownBy w4 V2.ownBlock) (hat:V2.ownBlock=some g∨g=(w3.alloc o).heap.size) :
   ∃ P',DK w r (w4.setCell ⟨w.heap.size+1,1,none⟩ (.slice (some ⟨g,0,none⟩) ((Z5 Ur D.frags).len+1) cap)) V1 (.slice (some ⟨g,0,none⟩) ((Z5 Ur D.frags).len+1) cap) ⟨D.ops,D.frags++[x]⟩ xs1 (xs2++cs) P1 X1 P' (fun b=>X2 b∨(w2.heap.size≤b∧b < w4.heap.size)):=by
 have h3:=h.next m
 have hr:=h.hr
 obtain ⟨P',hR⟩:=h.r2.app h.lt m (by omega) hd hown4 hg hat
 obtain ⟨q0,q1,q2,q3⟩:=h3.grown hg h3.own2
 have hsz:∀ v,(w4.setCell ⟨w.heap.size+1,1,none⟩ v).heap.size=w4.heap.size:=fun v=>by simp [World.setCell]
 have hs:=m.size
 have ha:(w3.alloc o).heap.size=w3.heap.size+1:=by simp
 have hs4:=hg.size
 have hR1:=(h3.r1.other (World.grownBy_alloc w3 o none) (fun _ e=>by cases e)).other hg (fun b e hx=>h.dis b hx (h.r2.inX b (.inr e)))
 refine ⟨P',V9 q0 (by omega),heap_setCell_same _ _ 1 _ _ _ q1,hR1.next (Z0.set (r:=w.heap.size+1)) (by omega),?_,?_,fun b hb=>?_,fun b hb=>?_,q2.put (by omega),hr,by rw [hsz];exact q3⟩
 · rw [show Z5 Ur (D.frags++[x])=(Z5 Ur D.frags).snoc (Ur x) from Xa _ _ _]
   exact hR.next (Z0.set (r:=w.heap.size+1)) (by omega)
 · intro b hx hb
   rcases hb with hb|hb
   · exact h.dis b hx hb
   · have:=(h.b1 b hx).2;omega
 · rw [hsz];have:=h.b1 b hb;omega
 · rw [hsz]
   rcases hb with hb|hb
   · have:=h.b2 b hb;omega
   · have:=h.lt;omega
def J1 (D:Vs):TrS:=.cons (.row (Z5 Ya D.ops)) (.cons (.row (Z5 Ur D.frags)) .nil)
theorem DK.tree {w:World} {r:Nat} {W:World} {V1 V2:Value} {D:Vs} {xs1 xs2:List Value} {P1 X1 P2 X2:Nat→Prop} (h:DK w r W V1 V2 D xs1 xs2 P1 X1 P2 X2) (h1:D.ops.length≤9223372036854775807) (h2:D.frags.length≤9223372036854775807):OvS (w.heap.size+1) W (J1 D) [V1,V2]:=by
 have f1:=(show RTr _ _ _ _ _ _ from ⟨xs1,P1,h.r1.own,h.r1.val,h.r1.bd⟩:RTr 68 5 (w.heap.size+2) W V1 (Z5 Ya D.ops)).fin (by rw [Zt];exact h1)
 have f2:=(show RTr _ _ _ _ _ _ from ⟨xs2,P2,h.r2.own,h.r2.val,h.r2.bd⟩:RTr 87 4 (w.heap.size+2) W V2 (Z5 Ur D.frags)).fin (by rw [Zt];exact h2)
 unfold J1 OvS
 exact TS.row (TP.keep (fun b hb=>⟨⟨by have:=hb.1;omega,hb.2⟩,rfl⟩) _ _ f1) (TS.row (TP.keep (fun b hb=>⟨⟨by have:=hb.1;omega,hb.2⟩,rfl⟩) _ _ f2) (TS.nil _ _))
def BK2 (w:World) (x y:Nat) (c0 c1 d0 d1:Value) (W:World):Prop:=
 (W.cell? ⟨x,0,none⟩=some c0∧W.cell? ⟨x,1,none⟩=some c1∧W.cell? ⟨y,0,none⟩=some d0∧W.cell? ⟨y,1,none⟩=some d1)∧x < W.heap.size∧y < W.heap.size∧Below w.heap.size w W
theorem BK2.cells {w W:World} {x y:Nat} {c0 c1 d0 d1:Value} (h:BK2 w x y c0 c1 d0 d1 W):W.cell? ⟨x,0,none⟩=some c0∧W.cell? ⟨x,1,none⟩=some c1∧W.cell? ⟨y,0,none⟩=some d0∧W.cell? ⟨y,1,none⟩=some d1:=h.1
theorem BK2.below {w W:World} {x y:Nat} {c0 c1 d0 d1:Value} (h:BK2 w x y c0 c1 d0 d1 W):Below w.heap.size w W:=h.2.2.2
theorem BK2.next {w W W':World} {x y:Nat} {c0 c1 d0 d1:Value} (h:BK2 w x y c0 c1 d0 d1 W) (hb:Below W.heap.size W W'):BK2 w x y c0 c1 d0 d1 W':=by
 obtain ⟨⟨g0,g1,f0,f1⟩,hx,hy,hB⟩:=h
 exact ⟨⟨(hb.cell (p:=⟨x,_,none⟩) hx).trans g0,(hb.cell (p:=⟨x,_,none⟩) hx).trans g1,(hb.cell (p:=⟨y,_,none⟩) hy).trans f0,(hb.cell (p:=⟨y,_,none⟩) hy).trans f1⟩,Nat.lt_of_lt_of_le hx hb.size,Nat.lt_of_lt_of_le hy hb.size,hB.trans (hb.mono hB.size)⟩
theorem BK2.start (w:World) (c0 c1 d0 d1:Value) (t:TypeId):BK2 w (w.heap.size) (w.heap.size+1) c0 c1 d0 d1 ((w.alloc (.cells #[c0,c1] t)).alloc (.cells #[d0,d1] t)):=by
 have k0:((w.alloc (.cells #[c0,c1] t)).alloc (.cells #[d0,d1] t)).heap[w.heap.size]? = some (.cells #[c0,c1] t):=by
  show ((w.alloc (.cells #[c0,c1] t)).alloc (.cells #[d0,d1] t)).heap[w.heap.size]? = _
  rw [Below.heap_alloc _ _ _ (by simp)]
  show (w.heap.push _)[w.heap.size]? = _;simp
 have k1:((w.alloc (.cells #[c0,c1] t)).alloc (.cells #[d0,d1] t)).heap[w.heap.size+1]? = some (.cells #[d0,d1] t):=by
  show ((w.heap.push _).push _)[w.heap.size+1]? = _
  rw [Array.getElem?_push,if_pos (by simp)]
 refine ⟨⟨?_,?_,?_,?_⟩,?_,?_,((Below.refl _ _).alloc (Nat.le_refl _) _).alloc (by simp) _⟩
 all_goals first|(simp only [World.cell?];first|(rw [k0];rfl)|(rw [k1];rfl))|(show _ < ((w.heap.push _).push _).size;simp;done)|(show _ < ((w.heap.push _).push _).size;simp;omega)
theorem Yc6 (x:OpT):(Ya x).len=5:=rfl
theorem Yg2 (x:Ql):(Ur x).len=4:=rfl
theorem Ymd {w:World} {B:Nat} {l:List OpT} {A:Option Addr} {q:Nat} {k:Int} {n:ByteArray} {vars:List Mw} {ds:List Lk} {ss:Vy} (h:Xp w (fun b=>b < B) (Z5 Ya l) A) (hx:l[q]? = some ⟨k,n,vars,ds,ss⟩) :
  ∃ b p Av kv Ad kd As ks,A=some ⟨b,p,none⟩∧b < B∧(w.cell? ⟨b,p+q*5,none⟩=some (.int .i64 k)∧w.cell? ⟨b,p+q*5+1,none⟩=some (.string n)∧w.cell? ⟨b,p+q*5+2,none⟩=some (.slice Av vars.length kv)∧w.cell? ⟨b,p+q*5+3,none⟩=some (.slice Ad ds.length kd)∧w.cell? ⟨b,p+q*5+4,none⟩=some (.slice As ss.len ks))∧Zkn w B vars ds ss Av Ad As:=by
 obtain ⟨b,p,cs,e,hb,hc,h1⟩:=Wh 5 Yc6 h hx
 simp only [Ya,TS,TP] at h1
 obtain ⟨c0,_,rfl,⟨rfl,_⟩,c1,_,rfl,⟨rfl,_⟩,c2,_,rfl,⟨Av,kv,rfl,hvl,hV⟩,c3,_,rfl,⟨Ad,kd,rfl,hdl,hD⟩,c4,_,rfl,⟨As,ks,rfl,hsl,hS⟩,rfl⟩:=h1
 rw [Zt] at hvl hdl
 rw [F4] at hsl
 rw [Zt,Zt,F4] at hc
 exact ⟨b,p,Av,kv,Ad,kd,As,ks,e,hb,⟨hc 0 _ rfl,hc 1 _ rfl,hc 2 _ rfl,hc 3 _ rfl,hc 4 _ rfl⟩,hvl,hV,hdl,hsl,hD,hS⟩
theorem Zk6 {w:World} {B:Nat} {l:List Ql} {A:Option Addr} {q:Nat} {a n:ByteArray} {ds:List Lk} {ss:Vy} (h:Xp w (fun b=>b < B) (Z5 Ur l) A) (hx:l[q]? = some ⟨a,n,ds,ss⟩) :
  ∃ b p Ad kd As ks,A=some ⟨b,p,none⟩∧b < B∧(w.cell? ⟨b,p+q*4,none⟩=some (.string a)∧w.cell? ⟨b,p+q*4+1,none⟩=some (.string n)∧w.cell? ⟨b,p+q*4+2,none⟩=some (.slice Ad ds.length kd)∧w.cell? ⟨b,p+q*4+3,none⟩=some (.slice As ss.len ks))∧In w B ds ss Ad As:=by
 obtain ⟨b,p,cs,e,hb,hc,h1⟩:=Wh 4 Yg2 h hx
 simp only [Ur,TS,TP] at h1
 obtain ⟨c0,_,rfl,⟨rfl,_⟩,c1,_,rfl,⟨rfl,_⟩,c2,_,rfl,⟨Ad,kd,rfl,hdl,hD⟩,c3,_,rfl,⟨As,ks,rfl,hsl,hS⟩,rfl⟩:=h1
 rw [Zt] at hdl
 rw [F4] at hsl
 rw [Zt,F4] at hc
 exact ⟨b,p,Ad,kd,As,ks,e,hb,⟨hc 0 _ rfl,hc 1 _ rfl,hc 2 _ rfl,hc 3 _ rfl⟩,hdl,hsl,hD,hS⟩
def KO5 (w:World) (s0 s1 r0 r1:Value) (b O:Nat) (c0 c1 c2 c3 c4:Value) (b' O':Nat) (d0 d1 d2 d3 d4:Value) (W:World):Prop:=
 (W.cell? ⟨b,O,none⟩=some c0∧W.cell? ⟨b,O+1,none⟩=some c1∧W.cell? ⟨b,O+2,none⟩=some c2∧W.cell? ⟨b,O+3,none⟩=some c3∧W.cell? ⟨b,O+4,none⟩=some c4∧W.cell? ⟨b',O',none⟩=some d0∧W.cell? ⟨b',O'+1,none⟩=some d1∧W.cell? ⟨b',O'+2,none⟩=some d2∧W.cell? ⟨b',O'+3,none⟩=some d3∧W.cell? ⟨b',O'+4,none⟩=some d4)∧BK2 w w.heap.size (w.heap.size+1) s0 s1 r0 r1 W
theorem KO5.next {w W:World} {s0 s1 r0 r1:Value} {b O:Nat} {c0 c1 c2 c3 c4:Value} {b' O':Nat} {d0 d1 d2 d3 d4:Value} {W':World} (h:KO5 w s0 s1 r0 r1 b O c0 c1 c2 c3 c4 b' O' d0 d1 d2 d3 d4 W) (hl:b < w.heap.size) (hl':b' < w.heap.size) (hb:Below W.heap.size W W'):KO5 w s0 s1 r0 r1 b O c0 c1 c2 c3 c4 b' O' d0 d1 d2 d3 d4 W':=by
 obtain ⟨⟨g0,g1,g2,g3,g4,f0,f1,f2,f3,f4⟩,hK⟩:=h
 have g:=Nat.lt_of_lt_of_le hl hK.below.size
 have g':=Nat.lt_of_lt_of_le hl' hK.below.size
 exact ⟨⟨(hb.cell (p:=⟨b,_,none⟩) g).trans g0,(hb.cell (p:=⟨b,_,none⟩) g).trans g1,(hb.cell (p:=⟨b,_,none⟩) g).trans g2,(hb.cell (p:=⟨b,_,none⟩) g).trans g3,(hb.cell (p:=⟨b,_,none⟩) g).trans g4,(hb.cell (p:=⟨b',_,none⟩) g').trans f0,(hb.cell (p:=⟨b',_,none⟩) g').trans f1,(hb.cell (p:=⟨b',_,none⟩) g').trans f2,(hb.cell (p:=⟨b',_,none⟩) g').trans f3,(hb.cell (p:=⟨b',_,none⟩) g').trans f4⟩,hK.next hb⟩
theorem KO5.written {w W:World} {s0 s1 r0 r1:Value} {b O:Nat} {c0 c1 c2 c3 c4:Value} {b' O':Nat} {d0 d1 d2 d3 d4:Value} (h:KO5 w s0 s1 r0 r1 b O c0 c1 c2 c3 c4 b' O' d0 d1 d2 d3 d4 W):W.cell? ⟨w.heap.size,0,none⟩=some s0∧W.cell? ⟨w.heap.size+1,0,none⟩=some r0∧W.cell? ⟨b,O,none⟩=some c0∧W.cell? ⟨b,O+1,none⟩=some c1∧W.cell? ⟨b,O+2,none⟩=some c2∧W.cell? ⟨b,O+3,none⟩=some c3∧W.cell? ⟨b,O+4,none⟩=some c4∧W.cell? ⟨b',O',none⟩=some d0∧W.cell? ⟨b',O'+1,none⟩=some d1∧W.cell? ⟨b',O'+2,none⟩=some d2∧W.cell? ⟨b',O'+3,none⟩=some d3∧W.cell? ⟨b',O'+4,none⟩=some d4∧KO5 w s0 s1 r0 r1 b O c0 c1 c2 c3 c4 b' O' d0 d1 d2 d3 d4 W:=by
 obtain ⟨⟨g0,g1,g2,g3,g4,f0,f1,f2,f3,f4⟩,hK⟩:=h
 exact ⟨hK.1.1,hK.1.2.2.1,g0,g1,g2,g3,g4,f0,f1,f2,f3,f4,⟨g0,g1,g2,g3,g4,f0,f1,f2,f3,f4⟩,hK⟩
def KO4 (w:World) (s0 s1 r0 r1:Value) (b O:Nat) (c0 c1 c2 c3:Value) (b' O':Nat) (d0 d1 d2 d3:Value) (W:World):Prop:=
 (W.cell? ⟨b,O,none⟩=some c0∧W.cell? ⟨b,O+1,none⟩=some c1∧W.cell? ⟨b,O+2,none⟩=some c2∧W.cell? ⟨b,O+3,none⟩=some c3∧W.cell? ⟨b',O',none⟩=some d0∧W.cell? ⟨b',O'+1,none⟩=some d1∧W.cell? ⟨b',O'+2,none⟩=some d2∧W.cell? ⟨b',O'+3,none⟩=some d3)∧BK2 w w.heap.size (w.heap.size+1) s0 s1 r0 r1 W
theorem KO4.next {w W:World} {s0 s1 r0 r1:Value} {b O:Nat} {c0 c1 c2 c3:Value} {b' O':Nat} {d0 d1 d2 d3:Value} {W':World} (h:KO4 w s0 s1 r0 r1 b O c0 c1 c2 c3 b' O' d0 d1 d2 d3 W) (hl:b < w.heap.size) (hl':b' < w.heap.size) (hb:Below W.heap.size W W'):KO4 w s0 s1 r0 r1 b O c0 c1 c2 c3 b' O' d0 d1 d2 d3 W':=by
 obtain ⟨⟨g0,g1,g2,g3,f0,f1,f2,f3⟩,hK⟩:=h
 have g:=Nat.lt_of_lt_of_le hl hK.below.size
 have g':=Nat.lt_of_lt_of_le hl' hK.below.size
 exact ⟨⟨(hb.cell (p:=⟨b,_,none⟩) g).trans g0,(hb.cell (p:=⟨b,_,none⟩) g).trans g1,(hb.cell (p:=⟨b,_,none⟩) g).trans g2,(hb.cell (p:=⟨b,_,none⟩) g).trans g3,(hb.cell (p:=⟨b',_,none⟩) g').trans f0,(hb.cell (p:=⟨b',_,none⟩) g').trans f1,(hb.cell (p:=⟨b',_,none⟩) g').trans f2,(hb.cell (p:=⟨b',_,none⟩) g').trans f3⟩,hK.next hb⟩
theorem KO4.written {w W:World} {s0 s1 r0 r1:Value} {b O:Nat} {c0 c1 c2 c3:Value} {b' O':Nat} {d0 d1 d2 d3:Value} (h:KO4 w s0 s1 r0 r1 b O c0 c1 c2 c3 b' O' d0 d1 d2 d3 W):W.cell? ⟨w.heap.size,1,none⟩=some s1∧W.cell? ⟨w.heap.size+1,1,none⟩=some r1∧W.cell? ⟨b,O,none⟩=some c0∧W.cell? ⟨b,O+1,none⟩=some c1∧W.cell? ⟨b,O+2,none⟩=some c2∧W.cell? ⟨b,O+3,none⟩=some c3∧W.cell? ⟨b',O',none⟩=some d0∧W.cell? ⟨b',O'+1,none⟩=some d1∧W.cell? ⟨b',O'+2,none⟩=some d2∧W.cell? ⟨b',O'+3,none⟩=some d3∧KO4 w s0 s1 r0 r1 b O c0 c1 c2 c3 b' O' d0 d1 d2 d3 W:=by
 obtain ⟨⟨g0,g1,g2,g3,f0,f1,f2,f3⟩,hK⟩:=h
 exact ⟨hK.1.2.1,hK.1.2.2.2,g0,g1,g2,g3,f0,f1,f2,f3,⟨g0,g1,g2,g3,f0,f1,f2,f3⟩,hK⟩
def Zye (w:World) (B:Nat) (D:Vs) (Ao Af:Option Addr):Prop:=
 D.ops.length≤9223372036854775807∧D.frags.length≤9223372036854775807∧Xp w (fun b=>b < B) (Z5 Ya D.ops) Ao∧Xp w (fun b=>b < B) (Z5 Ur D.frags) Af
theorem Yes (D:Vs) (Ao Ao' Af Af':Option Addr) (ko ko' kf kf':Nat) (w:World) (B:Nat) (hB:B≤w.heap.size) (h1:Zye w B D Ao Af) (h2:Zye w B D Ao' Af') :
  Calls Tryz.prog 16 #[.agg #[.slice Ao D.ops.length ko,.slice Af D.frags.length kf],.agg #[.slice Ao' D.ops.length ko',.slice Af' D.frags.length kf']] w fun e w'=>e=.returned (.bool true)∧Below w.heap.size w w':=by
 obtain ⟨hol,hfl,r10,r11⟩:=h1
 obtain ⟨_,_,r20,r21⟩:=h2
 have R10:=Hd r10
 have R11:=Hd r11
 have R20:=Hd r20
 have R21:=Hd r21
 have HB0:=Hd hB
 clear r10 r11 r20 r21 hB
 have eO:((D.ops.length:Int) != (D.ops.length:Int))=false:=by simp
 have eF:((D.frags.length:Int) != (D.frags.length:Int))=false:=by simp
 go_enter Tryz.func16,Tryz.ntmps16
 have hW0:=Hd (BK2.start w (.slice Ao D.ops.length ko) (.slice Af D.frags.length kf) (.slice Ao' D.ops.length ko') (.slice Af' D.frags.length kf') 26)
 go_wp2_with fail
 go_loopg [5] D.ops.length (fun g i wx=>∃ q:Nat,q+g=D.ops.length∧i=.int .i64 q∧BK2 w w.heap.size (w.heap.size+1) (.slice Ao D.ops.length ko) (.slice Af D.frags.length kf) (.slice Ao' D.ops.length ko') (.slice Af' D.frags.length kf') wx)
 case atStart=>exact ⟨0,by omega,rfl,hW0.out⟩
 case round =>
  clear hW0
  obtain ⟨q,hq,rfl,hb⟩:=hrel
  have HK:=Hd hb
  have HBB:=Hd hb.below
  have hx1:w.heap.size < wr.heap.size:=hb.2.1
  have hx2:w.heap.size+1 < wr.heap.size:=hb.2.2.1
  obtain ⟨q0,q1,q2,q3⟩:=hb.cells
  clear hb
  cases gk with
  | zero =>
    obtain rfl:q=D.ops.length:=by omega
    go_wp2_with fail
    go_loopg [6] D.frags.length (fun g i wx=>∃ q:Nat,q+g=D.frags.length∧i=.int .i64 q∧BK2 w w.heap.size (w.heap.size+1) (.slice Ao D.ops.length ko) (.slice Af D.frags.length kf) (.slice Ao' D.ops.length ko') (.slice Af' D.frags.length kf') wx)
    case atStart=>exact ⟨0,by omega,rfl,HK.out⟩
    case round =>
     clear q0 q1 q2 q3 hx1 hx2 HK HBB
     obtain ⟨q,hq,rfl,hb⟩:=hrel
     have HK:=Hd hb
     have HBB:=Hd hb.below
     have hx1:w.heap.size < wr.heap.size:=hb.2.1
     have hx2:w.heap.size+1 < wr.heap.size:=hb.2.2.1
     obtain ⟨q0,q1,q2,q3⟩:=hb.cells
     clear hb
     cases gk with
     | zero =>
       obtain rfl:q=D.frags.length:=by omega
       go_wp2_with fail
       go_ret
       exact ⟨rfl,HBB.out⟩
     | succ g =>
       clear q0 q1 q2 q3
       have hqn:q < D.frags.length:=by omega
       have hqn':(q:Int) < (D.frags.length:Int):=by omega
       obtain ⟨⟨a,n,ds,ss⟩,hv⟩:∃ x,D.frags[q]? = some x:=⟨_,List.getElem?_eq_getElem hqn⟩
       obtain ⟨b,o,Ad,kd,As,ks,rfl,hblt,⟨g0,g1,g2,g3⟩,V1⟩:=Zk6 (Xp.below (HBB.out.mono HB0.out) R11.out) hv
       obtain ⟨b',o',Ad',kd',As',ks',rfl,hblt',⟨f0,f1,f2,f3⟩,V2⟩:=Zk6 (Xp.below (HBB.out.mono HB0.out) R21.out) hv
       have HBX:=Nat.le_trans HB0.out HBB.out.size
       have HBW:Hid (b < w.heap.size):=Hd (Nat.lt_of_lt_of_le hblt HB0.out)
       have HBW':Hid (b' < w.heap.size):=Hd (Nat.lt_of_lt_of_le hblt' HB0.out)
       have hE0:KO4 w (.slice Ao D.ops.length ko) (.slice (some ⟨b,o,none⟩) D.frags.length kf) (.slice Ao' D.ops.length ko') (.slice (some ⟨b',o',none⟩) D.frags.length kf') b (o+q*4) (.string a) (.string n) (.slice Ad ds.length kd) (.slice As ss.len ks) b' (o'+q*4) (.string a) (.string n) (.slice Ad' ds.length kd') (.slice As' ss.len ks') wr:=⟨⟨g0,g1,g2,g3,f0,f1,f2,f3⟩,HK.out⟩
       have C:=fun (wx:World) (hx:Below wr.heap.size wr wx)=>Hd (Zys a n ds ss Ad Ad' As As' kd kd' ks ks' wx B (Nat.le_trans HBX hx.size) (In.below (hx.mono HBX) V1) (In.below (hx.mono HBX) V2))
       have hp:=hE0.written
       clear V1 V2 hv hblt hblt' HBX g0 g1 g2 g3 f0 f1 f2 f3
       obtain ⟨p0,p1,g0,g1,g2,g3,f0,f1,f2,f3,_⟩:=hp
       go_wp2_with fail
       go_region_held3 (fun w'=>w'.cell? ⟨w.heap.size,1,none⟩=some (.slice (some ⟨b,o,none⟩) D.frags.length kf)∧w'.cell? ⟨w.heap.size+1,1,none⟩=some (.slice (some ⟨b',o',none⟩) D.frags.length kf')∧w'.cell? ⟨b,o+q*4,none⟩=some (.string a)∧w'.cell? ⟨b,o+q*4+1,none⟩=some (.string n)∧w'.cell? ⟨b,o+q*4+2,none⟩=some (.slice Ad ds.length kd)∧w'.cell? ⟨b,o+q*4+3,none⟩=some (.slice As ss.len ks)∧w'.cell? ⟨b',o'+q*4,none⟩=some (.string a)∧w'.cell? ⟨b',o'+q*4+1,none⟩=some (.string n)∧w'.cell? ⟨b',o'+q*4+2,none⟩=some (.slice Ad' ds.length kd')∧w'.cell? ⟨b',o'+q*4+3,none⟩=some (.slice As' ss.len ks')∧KO4 w (.slice Ao D.ops.length ko) (.slice (some ⟨b,o,none⟩) D.frags.length kf) (.slice Ao' D.ops.length ko') (.slice (some ⟨b',o',none⟩) D.frags.length kf') b (o+q*4) (.string a) (.string n) (.slice Ad ds.length kd) (.slice As ss.len ks) b' (o'+q*4) (.string a) (.string n) (.slice Ad' ds.length kd') (.slice As' ss.len ks') w')
        (first
         | exact KO4.written (KO4.next hE0 HBW.out HBW'.out (Below.drew (Below.refl _ _)))
         | exact KO4.written ((KO4.next hE0 HBW.out HBW'.out (Below.drew (Below.refl _ _))).next HBW.out HBW'.out (by assumption))
         | exact KO4.written (KO4.next hE0 HBW.out HBW'.out (by assumption))
         | exact KO4.written (KO4.next (by assumption) HBW.out HBW'.out (by assumption))
         | go_keep)
        ((first|(go_at_call 46;refine (C _ (by first|exact Below.drew (Below.refl _ _)|exact Below.refl _ _|assumption)).out.mono ?_;rintro e w' ⟨rfl,hb⟩)))
       all_goals
        have HKM:KO4 w (.slice Ao D.ops.length ko) (.slice (some ⟨b,o,none⟩) D.frags.length kf) (.slice Ao' D.ops.length ko') (.slice (some ⟨b',o',none⟩) D.frags.length kf') b (o+q*4) (.string a) (.string n) (.slice Ad ds.length kd) (.slice As ss.len ks) b' (o'+q*4) (.string a) (.string n) (.slice Ad' ds.length kd') (.slice As' ss.len ks') w':=And.right (And.right (And.right (And.right (And.right (And.right (And.right (And.right (And.right (And.right (by assumption))))))))))
        have HKB:=Hd HKM.2
        clear HKM hE0 C p0 p1 g0 g1 g2 g3 f0 f1 f2 f3
        go_wp2_with fail
        go_roundg g
        case measure=>omega
        case rel=>exact ⟨q+1,by omega,by go_num,HKB.out⟩
  | succ g =>
    clear q0 q1 q2 q3
    have hqn:q < D.ops.length:=by omega
    have hqn':(q:Int) < (D.ops.length:Int):=by omega
    obtain ⟨⟨k,n,vars,ds,ss⟩,hv⟩:∃ x,D.ops[q]? = some x:=⟨_,List.getElem?_eq_getElem hqn⟩
    obtain ⟨b,o,Av,kv,Ad,kd,As,ks,rfl,hblt,⟨g0,g1,g2,g3,g4⟩,V1⟩:=Ymd (Xp.below (HBB.out.mono HB0.out) R10.out) hv
    obtain ⟨b',o',Av',kv',Ad',kd',As',ks',rfl,hblt',⟨f0,f1,f2,f3,f4⟩,V2⟩:=Ymd (Xp.below (HBB.out.mono HB0.out) R20.out) hv
    have HBX:=Nat.le_trans HB0.out HBB.out.size
    have HBW:Hid (b < w.heap.size):=Hd (Nat.lt_of_lt_of_le hblt HB0.out)
    have HBW':Hid (b' < w.heap.size):=Hd (Nat.lt_of_lt_of_le hblt' HB0.out)
    have hE0:KO5 w (.slice (some ⟨b,o,none⟩) D.ops.length ko) (.slice Af D.frags.length kf) (.slice (some ⟨b',o',none⟩) D.ops.length ko') (.slice Af' D.frags.length kf') b (o+q*5) (.int .i64 k) (.string n) (.slice Av vars.length kv) (.slice Ad ds.length kd) (.slice As ss.len ks) b' (o'+q*5) (.int .i64 k) (.string n) (.slice Av' vars.length kv') (.slice Ad' ds.length kd') (.slice As' ss.len ks') wr:=⟨⟨g0,g1,g2,g3,g4,f0,f1,f2,f3,f4⟩,HK.out⟩
    have C:=fun (wx:World) (hx:Below wr.heap.size wr wx)=>Hd (Yip k n vars ds ss Av Av' Ad Ad' As As' kv kv' kd kd' ks ks' wx B (Nat.le_trans HBX hx.size) (Zkn.below (hx.mono HBX) V1) (Zkn.below (hx.mono HBX) V2))
    have hp:=hE0.written
    clear V1 V2 hv hblt hblt' HBX g0 g1 g2 g3 g4 f0 f1 f2 f3 f4
    obtain ⟨p0,p1,g0,g1,g2,g3,g4,f0,f1,f2,f3,f4,_⟩:=hp
    go_wp2_with fail
    go_region_held3 (fun w'=>w'.cell? ⟨w.heap.size,0,none⟩=some (.slice (some ⟨b,o,none⟩) D.ops.length ko)∧w'.cell? ⟨w.heap.size+1,0,none⟩=some (.slice (some ⟨b',o',none⟩) D.ops.length ko')∧w'.cell? ⟨b,o+q*5,none⟩=some (.int .i64 k)∧w'.cell? ⟨b,o+q*5+1,none⟩=some (.string n)∧w'.cell? ⟨b,o+q*5+2,none⟩=some (.slice Av vars.length kv)∧w'.cell? ⟨b,o+q*5+3,none⟩=some (.slice Ad ds.length kd)∧w'.cell? ⟨b,o+q*5+4,none⟩=some (.slice As ss.len ks)∧w'.cell? ⟨b',o'+q*5,none⟩=some (.int .i64 k)∧w'.cell? ⟨b',o'+q*5+1,none⟩=some (.string n)∧w'.cell? ⟨b',o'+q*5+2,none⟩=some (.slice Av' vars.length kv')∧w'.cell? ⟨b',o'+q*5+3,none⟩=some (.slice Ad' ds.length kd')∧w'.cell? ⟨b',o'+q*5+4,none⟩=some (.slice As' ss.len ks')∧KO5 w (.slice (some ⟨b,o,none⟩) D.ops.length ko) (.slice Af D.frags.length kf) (.slice (some ⟨b',o',none⟩) D.ops.length ko') (.slice Af' D.frags.length kf') b (o+q*5) (.int .i64 k) (.string n) (.slice Av vars.length kv) (.slice Ad ds.length kd) (.slice As ss.len ks) b' (o'+q*5) (.int .i64 k) (.string n) (.slice Av' vars.length kv') (.slice Ad' ds.length kd') (.slice As' ss.len ks') w')
     (first
       | exact KO5.written (KO5.next hE0 HBW.out HBW'.out (Below.drew (Below.refl _ _)))
       | exact KO5.written ((KO5.next hE0 HBW.out HBW'.out (Below.drew (Below.refl _ _))).next HBW.out HBW'.out (by assumption))
       | exact KO5.written (KO5.next hE0 HBW.out HBW'.out (by assumption))
       | exact KO5.written (KO5.next (by assumption) HBW.out HBW'.out (by assumption))
       | go_keep)
     ((first|(go_at_call 45;refine (C _ (by first|exact Below.drew (Below.refl _ _)|exact Below.refl _ _|assumption)).out.mono ?_;rintro e w' ⟨rfl,hb⟩)))
    all_goals
     have HKM:KO5 w (.slice (some ⟨b,o,none⟩) D.ops.length ko) (.slice Af D.frags.length kf) (.slice (some ⟨b',o',none⟩) D.ops.length ko') (.slice Af' D.frags.length kf') b (o+q*5) (.int .i64 k) (.string n) (.slice Av vars.length kv) (.slice Ad ds.length kd) (.slice As ss.len ks) b' (o'+q*5) (.int .i64 k) (.string n) (.slice Av' vars.length kv') (.slice Ad' ds.length kd') (.slice As' ss.len ks') w':=And.right (And.right (And.right (And.right (And.right (And.right (And.right (And.right (And.right (And.right (And.right (And.right (by assumption))))))))))))
     have HKB:=Hd HKM.2
     clear HKM hE0 C p0 p1 g0 g1 g2 g3 g4 f0 f1 f2 f3 f4
     go_wp2_with fail
     go_roundg g
     case measure=>omega
     case rel=>exact ⟨q+1,by omega,by go_num,HKB.out⟩
end Go.Proofs.YtpkmbhnikilihaaGreatDoor
