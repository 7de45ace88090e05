/- The walk of the law BindGets. (gen_bgets.py wrote it.) -/
import Derived.Deep.CutRange
import Derived.Test.YtaekdfcpbepepaaGreatDoorRbBiLaw
set_option maxRecDepth 100000
set_option maxHeartbeats 8000000
namespace Go.Proofs.YtaekdfcpbepepaaGreatDoor.LBGets
open Go.RowKit
def getP (tl:Int) (n:ByteArray) (p:VarT):Bool:=(p.name.toList == n.toList) && ((p.tl == tl) && ((p.tn.toList == [73,68]) || (p.tn.toList == [83,116,114,105,110,103])))
theorem keys_any_get {tl:Int} {n:ByteArray} : ∀ {l:List VarT},keysP tl n l=true→l.any (getP tl n)=true
 | [],h=>by cases h
 | p :: t,h=>by
   unfold keysP at h
   rw [List.any_cons]
   by_cases e:(p.name.toList == n.toList)=true
   · rw [if_pos e,Bool.and_eq_true] at h
     have:getP tl n p=true:=by
      unfold getP
      rw [e,h.1,h.2]
      rfl
     rw [this]
     rfl
   · rw [if_neg e] at h
     rw [keys_any_get h,Bool.or_true]
theorem found_all {S:SchT} {d:DefnT} {f:FieldT} (h:ofOkB S d.name f=true):(!((sourceT f.dirs f.name).1.how == 2) || f.params.any (getP f.tl (sourceT f.dirs f.name).1.arg))=true:=by
 obtain ⟨_,h2,_⟩:=of_parts h
 generalize (sourceT f.dirs f.name).1=b at h2 ⊢
 cases e:(b.how == 2) with
 | false=>rfl
 | true =>
   unfold fitsT at h2
   have e':b.how=2:=eq_of_beq e
   rw [e',if_neg (by decide),if_neg (by decide),if_pos (by decide),Bool.and_eq_true] at h2
   rw [keys_any_get h2.2]
   rfl
theorem walk (w : World) (S:SchT) (c0 c1 c2:Value) (hw:Laid5 w) (hz:SlimS S) (hlg:ligN S≤1048576) (hS:TS w (fun b=>b < w.heap.size) (encSch S) [c0,c1,c2]) :
   Calls Tryz.prog 9 #[.agg #[c0,c1,c2]] w fun e w'=>e=.returned (.bool true)∧Below w.heap.size w w':=by
 obtain ⟨A,k,e,hl,hR⟩:=sch_cells hS
 injection e with e0 e
 injection e with e1 e
 injection e with e2 e
 subst e0 e1 e2
 have LG:=Hd (fun (wx:World) (h:Below w.heap.size w wx)=>lightN_any S _ _ _ wx w.heap.size h.size (TS.low h hS) hlg)
 have CK:=Hd (fun (ok:OkS S) (wx:World) (h:Below w.heap.size w wx)=>bcheck_any S ok _ _ _ wx w.heap.size h.size (TS.low h hS) (hw.below h))
 have AW:=Hd (fun (wx:World) (h:Below w.heap.size w wx)=>baw_any wx (hw.below h))
 have HOK:=Hd (fun (h:ligN S≤4000)=>okS_of h hz)
 have HR:=Hd (fun (wx:World) (h:Below w.heap.size w wx)=>RowT.below h hR)
 have OF:=Hd (fun (typ:ByteArray) (f:FieldT) (e0 e1 e2 e3 e4 e5:Value) (wx:World) (h:Below w.heap.size w wx) (hF:TS wx (fun b=>b < w.heap.size) (encField f) [e0,e1,e2,e3,e4,e5])=>of_any S typ f _ _ _ e0 e1 e2 e3 e4 e5 wx w.heap.size h.size hz (TS.low h hS) hF)
 have HK1:Hid (Kp w [(w.heap.size,.cells #[.slice A S.defs.length k,.string S.query,.string S.mutation] 24 (0,0))] (w.alloc (.cells #[.slice A S.defs.length k,.string S.query,.string S.mutation] 24))):=Hd (Kp.put (l:=[]) ⟨Below.refl _ _,fun p hp=>by cases hp⟩ (.cells #[.slice A S.defs.length k,.string S.query,.string S.mutation] 24))
 clear hw hz hlg hS hR e
 go_enter Tryz.func9,Tryz.ntmps9
 go_upto_region 1 with fail
 generalize w.alloc (.cells #[.slice A S.defs.length k,.string S.query,.string S.mutation] 24)=w1 at HK1 ⊢
 obtain ⟨z0,z1,z2⟩:=three_cells HK1.out.h0
 obtain ⟨lb,hlb⟩:∃ b,decide (((ligN S:Nat):Int)≤4000)=b:=⟨_,rfl⟩
 have LB:=Hd hlb
 rw [hlb] at LG
 clear hlb
 cases lb with
 | false =>
   go_wp2_with fail
   refine (LG.out _ HK1.out.1).mono ?_
   rintro e w2 ⟨rfl,hb⟩
   have K2:=Hd (HK1.out.next hb)
   clear hb
   go_wp2_with fail
   refine (AW.out _ K2.out.1).mono ?_
   rintro e w9 ⟨rfl,hb⟩
   have K9:=Hd (K2.out.next hb)
   clear hb
   go_wp2_with fail
   go_ret
   exact ⟨rfl,K9.out.1⟩
 | true =>
   have HOK1:=Hd (HOK.out (by have:=of_decide_eq_true LB.out;omega))
   have CK1:=Hd (CK.out HOK1.out)
   clear CK HOK
   go_wp2_with fail
   refine (LG.out _ HK1.out.1).mono ?_
   rintro e w2 ⟨rfl,hb⟩
   have K2:=Hd (HK1.out.next hb)
   clear hb z0 z1 z2 LG HK1
   obtain ⟨z0,z1,z2⟩:=three_cells K2.out.h0
   obtain ⟨sb,hsb⟩:∃ b,servB S=b:=⟨_,rfl⟩
   have HSB:=Hd hsb
   rw [hsb] at CK1
   clear hsb
   cases sb with
   | false =>
     go_wp2_with fail
     refine (CK1.out _ K2.out.1).mono ?_
     rintro e w3 ⟨rfl,hb⟩
     have K3:=Hd (K2.out.next hb)
     clear hb
     go_wp2_with fail
     refine (AW.out _ K3.out.1).mono ?_
     rintro e w9 ⟨rfl,hb⟩
     have K9:=Hd (K3.out.next hb)
     clear hb
     go_wp2_with fail
     go_ret
     exact ⟨rfl,K9.out.1⟩
   | true =>
     go_wp2_with fail
     refine (CK1.out _ K2.out.1).mono ?_
     rintro e w3 ⟨rfl,hb⟩
     have K3:=Hd (K2.out.next hb)
     clear hb CK1 K2 z0 z1 z2
     go_wp2_with fail
     go_loopg [3] S.defs.length (fun g i wx=>∃ q:Nat,q+g=S.defs.length∧i=.int .i64 q∧Kp w [(w.heap.size,.cells #[.slice A S.defs.length k,.string S.query,.string S.mutation] 24 (0,0))] wx)
     case atStart=>exact ⟨0,by omega,rfl,K3.out⟩
     case round =>
      obtain ⟨q,hq,rfl,hb⟩:=hrel
      obtain ⟨wo,rfl⟩:∃ x,x=wr:=⟨_,rfl⟩
      have KR:=Hd hb
      clear hb
      obtain ⟨z0,z1,z2⟩:=three_cells KR.out.h0
      cases gk with
      | zero =>
        obtain rfl:q=S.defs.length:=by omega
        go_wp2_with fail
        refine (AW.out _ KR.out.1).mono ?_
        rintro e w9 ⟨rfl,hb⟩
        have K9:=Hd (KR.out.next hb)
        clear hb
        go_wp2_with fail
        go_ret
        exact ⟨rfl,K9.out.1⟩
      | succ g1 =>
        have hqn:q < S.defs.length:=by omega
        have hqn':(q:Int) < (S.defs.length:Int):=by omega
        obtain ⟨d,hd⟩:∃ x,S.defs[q]? = some x:=⟨_,List.getElem?_eq_getElem hqn⟩
        have HD:=Hd (List.mem_of_getElem? hd)
        obtain ⟨bd,pd,d0,d1,d2,d3,d4,d5,rfl,hlt,⟨y0,y1,y2,y3,y4,y5⟩,hT⟩:=defn_at (HR.out _ KR.out.1) hd
        obtain ⟨Af,kf,Ax,kx,Ap,kp,Am,km,e,_,_,⟨lx,hx⟩,_,_,_⟩:=defn_cells hT
        simp only [List.cons.injEq,and_true] at e
        obtain ⟨rfl,rfl,rfl,rfl,rfl,rfl⟩:=e
        have HFX:=Hd (fun (wx:World) (h:Below wo.heap.size wo wx)=>RowT.below (h.mono KR.out.1.size) hx)
        clear hT hd hx
        go_upto_region 7 with fail
        have K4:=Hd (KR.out.put (.cells #[.int .i64 d.kind,.string d.name,.slice Af d.faces.length kf,.slice Ax d.fields.length kx,.slice Ap d.parts.length kp,.slice Am d.params.length km] 37))
        have B4:=Hd (dbelow_new wo (.cells #[.int .i64 d.kind,.string d.name,.slice Af d.faces.length kf,.slice Ax d.fields.length kx,.slice Ap d.parts.length kp,.slice Am d.params.length km] 37))
        generalize wo.alloc (.cells #[.int .i64 d.kind,.string d.name,.slice Af d.faces.length kf,.slice Ax d.fields.length kx,.slice Ap d.parts.length kp,.slice Am d.params.length km] 37)=w4 at K4 B4 ⊢
        generalize hgd:wo.heap.size=gd at K4 ⊢
        clear hgd y0 y1 y2 y3 y4 y5 z0 z1 z2
        obtain ⟨⟨y0,y1,y2,y3,y4,y5⟩,_⟩:=six_cells K4.out.h0
        cases hk:(d.kind == 1) with
        | false =>
          go_wp2_with fail
          go_loopg [5] d.fields.length (fun g i wx=>∃ q2:Nat,q2=0∧g=d.fields.length∧i=.int .i64 q2∧wx=w4)
          case atStart=>exact ⟨0,rfl,rfl,rfl,rfl⟩
          case round =>
           obtain ⟨q2,rfl,hg2,rfl,rfl⟩:=hrel
           rcases Nat.eq_zero_or_pos d.fields.length with h0|h0
           · have h1 : ¬ (0:Int) < (d.fields.length:Int):=by omega
             go_wp2_with fail
             go_roundg g1
             case measure=>omega
             case rel=>exact ⟨q+1,by omega,by go_num,K4.out.tail⟩
           · have h1:(0:Int) < (d.fields.length:Int):=by omega
             go_wp2_with fail
             go_roundg g1
             case measure=>omega
             case rel=>exact ⟨q+1,by omega,by go_num,K4.out.tail⟩
        | true =>
          have HSO:=Hd (fun (f:FieldT) (hf:f ∈ d.fields)=>serv_of HSB.out HD.out hk hf)
          go_wp2_with fail
          go_loopg [5] d.fields.length (fun g i wx=>∃ q2:Nat,q2+g=d.fields.length∧i=.int .i64 q2∧Kp w [(gd,.cells #[.int .i64 d.kind,.string d.name,.slice Af d.faces.length kf,.slice Ax d.fields.length kx,.slice Ap d.parts.length kp,.slice Am d.params.length km] 37 (0,0)),(w.heap.size,.cells #[.slice (some ⟨bd,pd,none⟩) S.defs.length k,.string S.query,.string S.mutation] 24 (0,0))] wx∧Below wo.heap.size wo wx)
          case atStart=>exact ⟨0,by omega,rfl,K4.out,B4.out⟩
          case round =>
           obtain ⟨q2,hq2,rfl,hb,hb2⟩:=hrel
           obtain ⟨wm,rfl⟩:∃ x,x=wr:=⟨_,rfl⟩
           have KF:=Hd hb
           have BF:=Hd hb2
           clear hb hb2 y0 y1 y2 y3 y4 y5
           obtain ⟨⟨y0,y1,y2,y3,y4,y5⟩,_⟩:=six_cells KF.out.h0
           obtain ⟨z0,z1,z2⟩:=three_cells KF.out.h1
           cases gk with
           | zero =>
             obtain rfl:q2=d.fields.length:=by omega
             go_wp2_with fail
             go_roundg g1
             case measure=>omega
             case rel=>exact ⟨q+1,by omega,by go_num,KF.out.tail⟩
           | succ g2 =>
             have hqm:q2 < d.fields.length:=by omega
             have hqm':(q2:Int) < (d.fields.length:Int):=by omega
             obtain ⟨f,hf⟩:∃ x,d.fields[q2]? = some x:=⟨_,List.getElem?_eq_getElem hqm⟩
             obtain ⟨bf,pf,cs,rfl,hlf,hc,hTf⟩:=rowOf_at 6 (fun _=>rfl) (HFX.out _ BF.out) hf
             obtain ⟨Aq,kq,Ad,kd,rfl,⟨_,htn⟩,⟨lq,hrq⟩,_,_⟩:=fld_cells hTf
             have f0:wm.cell? ⟨bf,pf+q2*6,none⟩=some (.string f.name):=hc 0 _ rfl
             have f1:=hc 1 _ rfl
             have f2:=hc 2 _ rfl
             have f3:=hc 3 _ rfl
             have f4:=hc 4 _ rfl
             have f5:=hc 5 _ rfl
             have HSF:=Hd (HSO.out f (List.mem_of_getElem? hf))
             have HTF:=Hd hTf
             have HRQ:=Hd hrq
             clear hf hc hTf hrq
             obtain ⟨x,hxe⟩:∃ x,(sourceT f.dirs f.name).1=x:=⟨_,rfl⟩
             have HFA:=Hd (found_all HSF.out.1)
             have HOF:=Hd HSF.out.2
             rw [hxe] at HFA HOF
             clear hxe
             go_upto_region 11 with fail
             have K5:=Hd (KF.out.put (.cells #[.string f.name,.slice Aq f.params.length kq,.string f.tn,.int .i64 f.tl,.int .i64 f.tm,.slice Ad f.dirs.length kd] 46))
             have B5:=Hd (dbelow_new wm (.cells #[.string f.name,.slice Aq f.params.length kq,.string f.tn,.int .i64 f.tl,.int .i64 f.tm,.slice Ad f.dirs.length kd] 46))
             generalize wm.alloc (.cells #[.string f.name,.slice Aq f.params.length kq,.string f.tn,.int .i64 f.tl,.int .i64 f.tm,.slice Ad f.dirs.length kd] 46)=w5 at K5 B5 ⊢
             generalize hgf:wm.heap.size=gf at K5 ⊢
             clear hgf f0 f1 f2 f3 f4 f5 y0 y1 y2 y3 y4 y5 z0 z1 z2
             obtain ⟨⟨f0,f1,f2,f3,f4,f5⟩,_⟩:=six_cells K5.out.h0
             obtain ⟨⟨y0,y1,y2,y3,y4,y5⟩,_⟩:=six_cells K5.out.h1
             obtain ⟨z0,z1,z2⟩:=three_cells K5.out.h2
             have OF1:=Hd (OF.out d.name f _ _ _ _ _ _ w5 K5.out.1 (TS.low (B5.out.mono KF.out.1.size) HTF.out))
             rw [HOF.out] at OF1
             go_wp2_with fail
             refine OF1.out.mono ?_
             rintro e w6 ⟨rfl,hb⟩
             have K6:=Hd (K5.out.next hb)
             have B6:=Hd (B5.out.trans (hb.mono B5.out.size))
             clear hb OF1 f0 f1 f2 f3 f4 f5 y0 y1 y2 y3 y4 y5 z0 z1 z2
             unfold bindV
             go_upto_region 12 with fail
             have K7:=Hd (K6.out.put (.cells #[.int .i64 x.how,.string x.table,.string x.col,.string x.arg,.string x.cmd] 51))
             have B7:=Hd (B6.out.trans ((dbelow_new w6 (.cells #[.int .i64 x.how,.string x.table,.string x.col,.string x.arg,.string x.cmd] 51)).mono B6.out.size))
             generalize w6.alloc (.cells #[.int .i64 x.how,.string x.table,.string x.col,.string x.arg,.string x.cmd] 51)=w7 at K7 B7 ⊢
             generalize hgx:w6.heap.size=gx at K7 ⊢
             clear hgx K6 B6
             obtain ⟨x0,x1,x2,x3,x4,_⟩:=gvc K7.out.h0
             obtain ⟨⟨f0,f1,f2,f3,f4,f5⟩,_⟩:=six_cells K7.out.h1
             have HKP:Hid (Kp w [(gx,.cells #[.int .i64 x.how,.string x.table,.string x.col,.string x.arg,.string x.cmd] 51 (0,0)),(gf,.cells #[.string f.name,.slice Aq f.params.length kq,.string f.tn,.int .i64 f.tl,.int .i64 f.tm,.slice Ad f.dirs.length kd] 46 (0,0)),(gd,.cells #[.int .i64 d.kind,.string d.name,.slice Af d.faces.length kf,.slice (some ⟨bf,pf,none⟩) d.fields.length kx,.slice Ap d.parts.length kp,.slice Am d.params.length km] 37 (0,0)),(w.heap.size,.cells #[.slice (some ⟨bd,pd,none⟩) S.defs.length k,.string S.query,.string S.mutation] 24 (0,0))] w7):=Hd K7.out
             clear K7 HSO HSF HTF HOF HFX
             obtain ⟨h2,hh2⟩:∃ b,(x.how == 2)=b:=⟨_,rfl⟩
             rw [hh2] at HFA
             have hh3:(x.how != 2) = !h2:=by simp only [bne,hh2]
             go_cut [9] (fun fd wx=>fd=.bool (!h2)∧wx=w7)
             case first =>
              go_wp2_with fail
              go_meet
              exact ⟨rfl,rfl⟩
             case rest =>
              obtain ⟨rfl,rfl⟩:=hcut
              clear hh2 hh3 x0 x1 x2 x3 x4 f0 f1 f2 f3 f4 f5
              go_wp2_with fail
              go_loopg [9,10] f.params.length (fun g fd jj wx=>∃ t:Nat,t+g=f.params.length∧fd=.bool (!h2 || (f.params.take t).any (getP f.tl x.arg))∧jj=.int .i64 t∧Kp w [(gx,.cells #[.int .i64 x.how,.string x.table,.string x.col,.string x.arg,.string x.cmd] 51 (0,0)),(gf,.cells #[.string f.name,.slice Aq f.params.length kq,.string f.tn,.int .i64 f.tl,.int .i64 f.tm,.slice Ad f.dirs.length kd] 46 (0,0)),(gd,.cells #[.int .i64 d.kind,.string d.name,.slice Af d.faces.length kf,.slice (some ⟨bf,pf,none⟩) d.fields.length kx,.slice Ap d.parts.length kp,.slice Am d.params.length km] 37 (0,0)),(w.heap.size,.cells #[.slice (some ⟨bd,pd,none⟩) S.defs.length k,.string S.query,.string S.mutation] 24 (0,0))] wx∧Below wm.heap.size wm wx)
              case atStart=>exact ⟨0,by omega,by simp,rfl,HKP.out,B7.out⟩
              case round =>
               obtain ⟨t,ht,rfl,rfl,hb,hb2⟩:=hrel
               have KT:=Hd hb
               have BT:=Hd hb2
               clear hb hb2
               obtain ⟨x0,x1,x2,x3,x4,_⟩:=gvc KT.out.h0
               obtain ⟨⟨f0,f1,f2,f3,f4,f5⟩,_⟩:=six_cells KT.out.h1
               cases gk with
               | zero =>
                 obtain rfl:t=f.params.length:=by omega
                 rw [List.take_length,HFA.out]
                 go_wp2_with fail
                 go_roundg g2
                 case measure=>omega
                 case rel=>exact ⟨q2+1,by omega,by go_num,KT.out.tail.tail,BF.out.trans (BT.out.mono BF.out.size)⟩
               | succ g3 =>
                 have htn':t < f.params.length:=by omega
                 have htn2:(t:Int) < (f.params.length:Int):=by omega
                 obtain ⟨p,hp⟩:∃ x,f.params[t]? = some x:=⟨_,List.getElem?_eq_getElem htn'⟩
                 obtain ⟨bp,op,cs,rfl,hlp,hc,hTp⟩:=rowOf_at 10 len_par (RowT.below (BT.out.mono KF.out.1.size) HRQ.out) hp
                 obtain ⟨A3,k3,A4,k4,rfl,_⟩:=var_cells hTp
                 have p0:wr.cell? ⟨bp,op+t*10,none⟩=some (.string p.name):=hc 0 _ rfl
                 have p1:=hc 1 _ rfl
                 have p2:=hc 2 _ rfl
                 have p3:=hc 3 _ rfl
                 have p4:=hc 4 _ rfl
                 have p5:=hc 5 _ rfl
                 have p6:=hc 6 _ rfl
                 have p7:=hc 7 _ rfl
                 have p8:=hc 8 _ rfl
                 have p9:=hc 9 _ rfl
                 have HAN:Hid (((f.params.take (t+1)).any (getP f.tl x.arg))=((f.params.take t).any (getP f.tl x.arg) || getP f.tl x.arg p)):=Hd (by rw [List.take_add_one,hp,List.any_append];simp)
                 have HGP:Hid (getP f.tl x.arg p=((p.name.toList == x.arg.toList) && ((p.tl == f.tl) && ((p.tn.toList == [73,68]) || (p.tn.toList == [83,116,114,105,110,103]))))):=Hd rfl
                 clear hc hTp hp
                 go_upto_region 17 with fail
                 have K8:=Hd (KT.out.put (.cells #[.string p.name,.string p.tn,.int .i64 p.tl,.int .i64 p.tm,.bool p.has,.int .i64 p.v.kd,.int .i64 p.v.nn,.string p.v.ss,.slice A3 p.v.ls.len k3,.slice A4 p.v.ms.len k4] 60))
                 have B8:=Hd (BT.out.trans ((dbelow_new wr (.cells #[.string p.name,.string p.tn,.int .i64 p.tl,.int .i64 p.tm,.bool p.has,.int .i64 p.v.kd,.int .i64 p.v.nn,.string p.v.ss,.slice A3 p.v.ls.len k3,.slice A4 p.v.ms.len k4] 60)).mono BT.out.size))
                 generalize wr.alloc (.cells #[.string p.name,.string p.tn,.int .i64 p.tl,.int .i64 p.tm,.bool p.has,.int .i64 p.v.kd,.int .i64 p.v.nn,.string p.v.ss,.slice A3 p.v.ls.len k3,.slice A4 p.v.ms.len k4] 60)=w8 at K8 B8 ⊢
                 generalize hgp:wr.heap.size=gp at K8 ⊢
                 clear hgp p0 p1 p2 p3 p4 p5 p6 p7 p8 p9 x0 x1 x2 x3 x4 f0 f1 f2 f3 f4 f5
                 obtain ⟨⟨p0,p1,p2,p3,p4,p5,p6,p7,p8,p9⟩,_⟩:=ten_cells K8.out.h0
                 obtain ⟨x0,x1,x2,x3,x4,_⟩:=gvc K8.out.h1
                 obtain ⟨⟨f0,f1,f2,f3,f4,f5⟩,_⟩:=six_cells K8.out.h2
                 obtain ⟨fd,hfd⟩:∃ b,(!h2 || (f.params.take t).any (getP f.tl x.arg))=b:=⟨_,rfl⟩
                 rw [hfd]
                 have HFD:=Hd hfd
                 clear hfd
                 have HNX:Hid ((!h2 || (f.params.take (t+1)).any (getP f.tl x.arg))=(fd || getP f.tl x.arg p)):=Hd (by rw [HAN.out,← Bool.or_assoc,HFD.out])
                 clear HAN HFD
                 generalize getP f.tl x.arg p=gp' at HGP HNX
                 cases fd with
                 | true =>
                   go_wp2_with fail
                   go_roundg g3
                   case measure=>omega
                   case rel=>exact ⟨t+1,by omega,by rw [HNX.out];rfl,by go_num,K8.out.tail,B8.out⟩
                 | false =>
                   cases e1:(p.name.toList == x.arg.toList) with
                   | false =>
                     rw [e1] at HGP
                     go_wp2_with fail
                     go_roundg g3
                     case measure=>omega
                     case rel=>exact ⟨t+1,by omega,by rw [HNX.out,HGP.out];rfl,by go_num,K8.out.tail,B8.out⟩
                   | true =>
                     cases e2:(p.tl == f.tl) with
                     | false =>
                       rw [e1,e2] at HGP
                       go_wp2_with fail
                       go_roundg g3
                       case measure=>omega
                       case rel=>exact ⟨t+1,by omega,by rw [HNX.out,HGP.out];rfl,by go_num,K8.out.tail,B8.out⟩
                     | true =>
                       cases e3:(p.tn.toList == [73,68]) with
                       | true =>
                         rw [e1,e2,e3] at HGP
                         go_wp2_with fail
                         go_roundg g3
                         case measure=>omega
                         case rel=>exact ⟨t+1,by omega,by rw [HNX.out,HGP.out];rfl,by go_num,K8.out.tail,B8.out⟩
                       | false =>
                         cases e4:(p.tn.toList == [83,116,114,105,110,103]) with
                         | true =>
                           rw [e1,e2,e3,e4] at HGP
                           go_wp2_with fail
                           go_roundg g3
                           case measure=>omega
                           case rel=>exact ⟨t+1,by omega,by rw [HNX.out,HGP.out];rfl,by go_num,K8.out.tail,B8.out⟩
                         | false =>
                           rw [e1,e2,e3,e4] at HGP
                           go_wp2_with fail
                           go_roundg g3
                           case measure=>omega
                           case rel=>exact ⟨t+1,by omega,by rw [HNX.out,HGP.out];rfl,by go_num,K8.out.tail,B8.out⟩
end Go.Proofs.YtaekdfcpbepepaaGreatDoor.LBGets
