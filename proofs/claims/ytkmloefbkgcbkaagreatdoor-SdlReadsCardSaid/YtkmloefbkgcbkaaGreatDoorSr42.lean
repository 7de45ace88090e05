/- The document's reader of a definition: objects. (gen_prdf2.py wrote it.) -/
import Derived.Test.YtkmloefbkgcbkaaGreatDoorSr41
set_option maxRecDepth 100000
set_option maxHeartbeats 16000000
namespace Go.Proofs.YtkmloefbkgcbkaaGreatDoor
open Go.RowKit
variable {nT:Nat}
theorem Yf3 (wd:ByteArray) (hwd:Yo wd=1) (d r:Nat) (S:StP) (w:World) (hG:∀ ts,S=.ok ts→Yn ts) (hL:∀ ts,S=.ok ts→ts.length≤200000) (hd:d≤16) (h:RP nT w r d S):Calls Tryz.prog 14 #[.pointer (some ⟨r,0,none⟩),.string wd] w (Yns nT 1 d r S w):=by
 obtain ⟨i0,hi,hz0,hz1,hz2⟩:=info_parts Ycm;obtain ⟨t1,t2,_⟩:=Ef wd;rw [hwd] at t1 t2;replace t1:(wd.toList == [116,121,112,101])=true:=t1;replace t2:(wd.toList == [105,110,116,101,114,102,97,99,101])=false:=t2;have HD:=Hd hd;have K00:=Hd (Q0.start h #[.int .i64 0,.string ⟨#[]⟩,.slice none 0 0,.slice none 0 0,.slice none 0 0,.slice none 0 0] 35);have NI:=Hd (Uu r d S _ K00.out.rd);have NS1:=Hd (Vh (fun us e=>(hG us e).1));have HGN:Hid (∀ us,nmS S=.ok us→Yn us):=Hd (fun us e=>by obtain ⟨u1,e1,s1,_⟩:=L7 e;exact (hG _ e1).sub s1);have HLN:Hid (∀ us,nmS S=.ok us→us.length≤200000):=Hd (Gg hL)
 have HS1:Hid (∀ us,tkS omB (Xb (Zb Zw (nmS S)))=.ok us→Yn us∧us.length≤200000):=Hd (fun us e=>by
  obtain ⟨u1,e1,s1,l1⟩:=Cs e;obtain ⟨a,e2,_⟩:=Of e1;obtain ⟨u2,e3,hp⟩:=Cu e2;have s2:=Sw _ _ _ hp;exact ⟨((HGN.out _ e3).sub s2).sub s1,by have:=HLN.out _ e3;have:=s2.length_le;omega⟩)
 obtain ⟨Kc,hKc⟩:∃ K,Cc (fdR d) V8 cmB [] true (tkS omB (Xb (Zb Zw (nmS S))))=K:=⟨_,rfl⟩;have HKZ:=Hd (show Cc (fdR d) V8 cmB [] true (tkS omB (Xb (Zb Zw (nmS S))))=Kc from hKc);have HKC:=Hd (show Cc (fdR d) V8 cmB [] (decide (TrL.nil.len=0)) (tkS omB (Xb (Zb Zw (nmS S))))=Kc from hKc);have HR:Hid (Zb (Ni d 1) S=F1 (fun l=>⟨1,nmV S,Ul [] (Zb Zw (nmS S)),l,[],[]⟩) Kc):=Hd (by rw [Ybs (Or.inl rfl),← hKc];unfold Cc;rw [if_pos rfl]);clear h hd hG hL hwd hKc
 go_enter Tryz.func14,Tryz.ntmps14
 go_wp2_with fail
 refine NI.out.mono ?_;rintro e wb ⟨rfl,hb,mb⟩;have K3:=Hd (Q1.make (K00.out.next hb mb) #[.int .i64 1,.string (nmV S),.slice none 0 0,.slice none 0 0,.slice none 0 0,.slice none 0 0] 35);have SI:=Hd (Tx r d (nmS S) Gl _ K3.out.rd);clear hb mb NI K00
 go_upto_region 11 with fail
 generalize wb.alloc (.cells #[.int .i64 1,.string (nmV S),.slice none 0 0,.slice none 0 0,.slice none 0 0,.slice none 0 0] 35)=wk at K3 SI ⊢;generalize wb.heap.size=b8 at K3 ⊢;clear t1 t2
 go_cut [24] (fun t wx=>t=.bool (isS 2 Gl (nmS S))∧Aside (Q1 nT w r wx (.cells #[.int .i64 0,.string ⟨#[]⟩,.slice none 0 0,.slice none 0 0,.slice none 0 0,.slice none 0 0] 35 (0,0)) b8 (.cells #[.int .i64 1,.string (nmV S),.slice none 0 0,.slice none 0 0,.slice none 0 0,.slice none 0 0] 35 (0,0)) (nmS S) d))
 case first =>
  go_wp2_with fail
  refine SI.out.mono ?_;rintro e w4 ⟨rfl,hb4⟩;have K4:=K3.out.next (K3.out.rd.below hb4) (Z0.of_below hb4);clear hb4;go_wp2_with fail
  go_meet
  exact ⟨rfl,Za K4⟩
 case rest =>
 obtain ⟨rfl,hk4⟩:=hcut;have K4:=Hd hk4.out;clear hk4 SI K3
 go_upto_if 24 with fail
 go_cut [] (fun wx=>∃ (A1:Option Addr) (n1 k1:Nat) (x1:TrL),Aside ((Q1 nT w r wx (.cells #[.int .i64 0,.string ⟨#[]⟩,.slice none 0 0,.slice none 0 0,.slice none 0 0,.slice none 0 0] 35 (0,0)) b8 (.cells #[.int .i64 1,.string (nmV S),.slice A1 n1 k1,.slice none 0 0,.slice none 0 0,.slice none 0 0] 35 (0,0)) (Xb (Zb Zw (nmS S))) d)∧OvS b8 wx (.cons (.row x1) .nil) [.slice A1 n1 k1]∧∀ a us,Zb Zw (nmS S)=.ok (a,us)→x1=Z5 Zd a))
 case first =>
  cases h2:isS 2 Gl (nmS S) with
  | true =>
    have N2:=Hd (Uu r d (nmS S) _ K4.out.rd);have EF:Hid (Zb Zw (nmS S)=Zb (Xl Yi1) (nmS (nmS S))):=Hd (Ydm h2);clear h2;go_wp2_with fail
    refine N2.out.mono ?_;rintro e w5 ⟨rfl,h5,m5⟩;have K5:=Hd (K4.out.next h5 m5);have NM:=Hd (Yez Yi1 d r _ w5 (I5 (fun us e=>(HGN.out us e).1)) (Gg HLN.out) K5.out.rd);clear h5 m5 N2 K4;go_wp2_with fail
    refine NM.out.mono ?_;rintro e w6 ⟨A1,n1,k1,rfl,⟨x1,hx1,hxe1⟩,h6,m6⟩;have K6:=Hd (K5.out.next h6 m6);have O6:=Hd (OvS.of (show TS _ (Y7 _ w6) (.cons (.row x1) .nil) [.slice A1 n1 k1] from TS.row hx1 (TS.nil _ _)) K5.out.blt);obtain ⟨y0,y1,y2,y3,y4,y5,yz⟩:=Z8 K6.out.loc;have yf2:=yz 2;have K8:=Hd (K6.out.put 2 (.slice A1 n1 k1));rw [← EF.out] at K8;have OA:=Hd (O6.out.put (Nat.le_refl _) (i:=2) (v:=.slice A1 n1 k1));have HX1:Hid (∀ a us,Zb Zw (nmS S)=.ok (a,us)→x1=Z5 Zd a):=Hd (by rw [EF.out];exact hxe1);clear hx1 hxe1 h6 m6 yz NM K5 K6 O6 EF;go_wp2_with fail
    go_meet
    exact ⟨A1,n1,k1,x1,Za ⟨K8.out,OA.out,HX1.out⟩⟩
  | false =>
    have EF:Hid (Zb Zw (nmS S)=F1 (fun _=>[]) (Zb Nd (nmS S))):=Hd (Yk0 h2);clear h2;go_wp2_with fail
    go_meet
    refine ⟨none,0,0,.nil,Za ⟨by rw [EF.out,Y4,Yf];exact K4.out,TS.row (TP.none _ _) (TS.nil _ _),fun a us e=>?_⟩⟩;rw [EF.out] at e;obtain ⟨_,rfl⟩:=Vv e
    rfl
 case rest =>
 obtain ⟨A1,n1,k1,x1,hc8⟩:=hcut;have K8:=Hd hc8.out.1;have OA:=Hd hc8.out.2.1;have HX1:=Hd hc8.out.2.2;have CI:=Hd (J1 r d _ omB _ K8.out.rd);clear hc8 K4;go_wp2_with fail
 refine CI.out.mono ?_;rintro e w9 ⟨rfl,h9,m9⟩;have K9:=Hd (K8.out.next h9 m9);have O9':=Hd (OA.out.next m9 K8.out.rb);obtain ⟨Bs,hBs⟩:∃ B,w9.heap.size=B:=⟨_,rfl⟩;have O9:=Hd (OvB.of O9'.out hBs.symm);have HBA:=Hd (Nat.le_of_eq hBs.symm);have HBS:=Hd (show r < Bs∧b8 < Bs from ⟨by have:=K9.out.rb;have:=K9.out.blt;omega,by have:=K9.out.blt;omega⟩);clear h9 m9 CI K8 OA O9' hBs;go_wp2_with fail
 go_loopg [] 200001 (fun g wx=>∃ (Sx:StP) (l:List Um) (T:TrL) (V:Value),(∀ ts,Sx=.ok ts→ts.length < g∧T.len+ts.length≤200000)∧T.len≤200001∧Aside (Q1 nT w r wx (.cells #[.int .i64 0,.string ⟨#[]⟩,.slice none 0 0,.slice none 0 0,.slice none 0 0,.slice none 0 0] 35 (0,0)) b8 (.cells #[.int .i64 1,.string (nmV S),.slice A1 n1 k1,V,.slice none 0 0,.slice none 0 0] 35 (0,0)) Sx d∧OvB b8 Bs wx (.cons (.row x1) .nil) [.slice A1 n1 k1]∧RTr 73 6 Bs wx V T∧Cc (fdR d) V8 cmB l (decide (T.len=0)) Sx=Kc∧Bs≤wx.heap.size∧∀ ts,Sx=.ok ts→T=Z5 Ze l∧Yn ts))
 case atStart=>exact ⟨_,[],.nil,.slice none 0 0,fun ts e=>⟨by have:=(HS1.out ts e).2;omega,by show 0+_≤_;have:=(HS1.out ts e).2;omega⟩,Nat.zero_le _,Za ⟨K9.out,O9.out,RTr.start _ _ _ _,HKC.out,HBA.out,fun ts e=>⟨rfl,(HS1.out ts e).1⟩⟩⟩
 case round =>
  obtain ⟨Sx,l,T,V,hms,hTl,HA⟩:=hrel;have KX:=Hd HA.out.1;have OX:=Hd HA.out.2.1;have HRR:=Hd HA.out.2.2.1;have HKX:=Hd HA.out.2.2.2.1;have HBX:=Hd HA.out.2.2.2.2.1;have HFX:=Hd HA.out.2.2.2.2.2;clear HA K9 O9 HBA;obtain ⟨Ao,co,rfl⟩:=HRR.out.shape;obtain ⟨A,n,c,p,dd,x0,h0,h1,h2⟩:=KX.out.rd.cells;obtain ⟨c0,c1,c2,c3,cz⟩:=Zh h0;obtain ⟨m0,m1,m2,m3x,m4x,m5x,mz⟩:=Z8 KX.out.loc;have z3:=mz 3;have mL:=m3x;clear cz h0 mz;rcases Sx with y|ts
  · obtain ⟨rfl,hy⟩:=h2
    have t1:(x0 == 0)=false:=by simpa using hy
    have hs7:=Hd (J1 r d (.error x0) cmB _ KX.out.rd);have HKX:=Hd (show (.error x0:Except Int (List Um × List Tok))=Kc by rw [← HKX.out,Vs]);clear hy h1 hms;go_wp2_with fail
    refine hs7.out.mono ?_;rintro e w7 ⟨rfl,hh7,mm7⟩;have K7:=Hd (KX.out.next hh7 mm7);have O7:=Hd (OX.out.next mm7 KX.out.rb (Nat.le_refl _));have T7:=Hd (HRR.out.moved mm7 HBS.out.1);have B7:=Hd (Nat.le_trans HBX.out mm7.size);clear hh7 mm7 c0 c1 c2 c3 m0 m1 m2 m3x m4x m5x z3 mL;obtain ⟨v0,v1,v2,v3,v4,v5,vz⟩:=Z8 K7.out.loc;obtain ⟨q0,q1,q2,q3,q4,q5,qz⟩:=Z8 K7.out.res;have qf0:=qz 0;have qf1:=qz 1;have qf2:=qz 2;have qf3:=qz 3;have qf4:=qz 4;have qf5:=qz 5;clear vz qz;go_wp2_with fail
    have F:=K7.out.fin (ys:=dfZ) [.int .i64 1,.string (nmV S),.slice A1 n1 k1,.slice Ao T.len co,.slice none 0 0,.slice none 0 0] rfl;have TT:=Iw (w:=w) T7.out (by omega) (by have:=K7.out.bl;have:=HBS.out.2;omega) [.int .i64 1,.string (nmV S),.slice A1 n1 k1,.slice Ao T.len co,.slice none 0 0,.slice none 0 0];have OF:=(O7.out.up B7.out).fin (w:=w) (Nat.le_of_lt K7.out.bl) [.int .i64 1,.string (nmV S),.slice A1 n1 k1,.slice Ao T.len co,.slice none 0 0,.slice none 0 0];refine Y6 (cs:=[.int .i64 1,.string (nmV S),.slice A1 n1 k1,.slice Ao T.len co,.slice none 0 0,.slice none 0 0]) rfl rfl rfl F.1 Tryz.underlying35 ⟨_,rfl⟩ (by kernel_rfl) ?_;have hk:=HKX.out;refine ⟨(nmV S),A1,n1,k1,Ao,T.len,co,none,0,0,none,0,0,rfl,⟨.cons (.one (.int .i64 1)) (.cons (.one (.string (nmV S))) (.cons (.row x1) (.cons (.row T) (.cons (.row .nil) (.cons (.row .nil) .nil))))),TS.int (TS.str NS1.out (Gs OF (TS.row TT (TS.row (TP.none _ _) (TS.row (TP.none _ _) (TS.nil _ _)))))),fun a us e=>?_⟩,?_,F.2.2⟩
    · rw [HR.out,← hk] at e
      cases e
    · rw [HR.out,← hk]
      exact F.2.1
  · obtain ⟨rfl, rfl⟩:=h2
    have HF:=Hd (HFX.out ts rfl);obtain ⟨hg1,hg2⟩:=hms ts rfl;refine Or.elim (Classical.em (T.len=0∨isS 1 cmB (.ok ts)=false)) (fun hgo=>?_) (fun hend=>?_)
    focus
      cases gk with
      | zero=>omega
      | succ g =>
        refine Or.elim (Classical.em (T.len=0)) (fun hT=>?_) (fun hT=>?_)
        focus
          have t2:((T.len:Int) == 0)=true:=by simp;omega
          have HNX:=Hd (by have hk:=HKX.out;rw [U2 (Zx7 d) (.inl (by simp [hT]))] at hk;exact hk);clear h1 hms hT hgo c1 c2;go_wp2_with fail
          clear c0 c3 mL
          rename World=>wx
        rotate_left
        focus
          have t2:((T.len:Int) == 0)=false:=by simp;omega
          have hc:isS 1 cmB (.ok ts)=false:=by rcases hgo with h|h;exact absurd h hT;exact h
          have hi7:=Hd (ris r d (.ok ts) cmB _ KX.out.rd);rw [hc] at hi7;have HKX:=Hd (by have hk:=HKX.out;rw [show decide (T.len=0)=false by simp [hT]] at hk;exact hk);have HNX:=Hd (by have hk:=HKX.out;rw [U2 (Zx7 d) (.inr hc)] at hk;exact hk);clear hc h1 hms hT hgo;go_wp2_with fail
          refine hi7.out.mono ?_;rintro e wx ⟨rfl,hb6⟩;have KX':=Hd (KX.out.next (KX.out.rd.below hb6) (Z0.of_below hb6));have OX':=Hd (OX.out.next (Z0.of_below (r:=r) hb6) KX.out.rb (Nat.le_refl _));have HRR':=Hd (HRR.out.moved (Z0.of_below (r:=r) hb6) HBS.out.1);have HBX':=Hd (Nat.le_trans HBX.out hb6.size);clear hb6 hi7 c0 c1 c2 c3 KX OX HRR HBX m0 m1 m2 m3x m4x m5x z3 mL;have KX:=KX';have OX:=OX';have HRR:=HRR';have HBX:=HBX';obtain ⟨m0,m1,m2,m3x,m4x,m5x,mz⟩:=Z8 KX.out.loc;have z3:=mz 3;clear mz;go_wp2_with fail
        all_goals
          have CV:=fun wy (hb:Below wx.heap.size wx wy)=>Hd (Ykk d r (.ok ts) wy (fun us e=>by rw [← Except.ok.inj e];exact HF.out.2.1) (fun us e=>by rw [← Except.ok.inj e];omega) HD.out (KX.out.rd.below hb));obtain ⟨xs,P,hown,hvals,hP⟩:=HRR.out;have HVB:Hid (∀ c,(Value.slice Ao T.len co).ownBlock=some c→Bs≤c):=Hd (fun c hc=>(hown.lt c hc).1);have HRT:=Hd (And.intro hown (And.intro hvals hP));clear hown hvals hP;refine wp_region_held_drew (S:=fun _=>True) (by kernel_rfl) trivial (fun _=>?_);refine tkE (i:=0) (v:=?_) rfl (Or.inl ⟨by rfl,?_⟩) ?_
          rotate_left
          · (intro w _;go_simp;try with_reducible rfl)
          simp only [Act.put,List.setIfInBounds_toArray];refine tkE (i:=2) (v:=?_) rfl (Or.inl ⟨by rfl,?_⟩) ?_
          rotate_left
          · (intro w _;go_simp;try with_reducible rfl)
          simp only [Act.put];refine rdE (rs:=[1,3]) ?_;refine AllReadyH.cons rfl (fun K hK=>?_) ?_
          focus
            go_simp
            refine hK.out _ _ trivial (fun _=>?_);clear hK K
            try simp only [Act.put,stT,stZ,stS]
            refine rd1E 3 rfl (fun K hK=>?_)
            go_simp
            go_at_call 33
            refine (CV _ (Below.drew (Below.refl _ _))).out.mono ?_;rintro e w3 ⟨fn,D1,d1,u1,fy,fl,fm,D2,d2,u2,rfl,⟨xt,hts,hxe⟩,r3,m3⟩;have HM3:=Hd ((Z0.of_below (r:=r) (Below.drew (Below.refl _ _))).trans m3);have HTS:Hid (TS w3 (Y7 _ w3) xt [.string fn,.slice D1 d1 u1,.string fy,.int .i64 fl,.int .i64 fm,.slice D2 d2 u2]):=Hd (hts);have HXE:=Hd hxe;have K3:=Hd (KX.out.next r3 HM3.out);have OX3:=Hd (OX.out.next HM3.out KX.out.rb (Nat.le_refl _));clear hts hxe r3 m3;obtain ⟨j0,j1,j2,j3,j4,j5,jz⟩:=Z8 K3.out.loc;have y3:=jz 3;have jA:=fun o=>(World.cell?_of_block (a:=⟨b8,3,none⟩) (Below.heap_alloc w3 o _ K3.out.blt)).trans j3;clear jz m0 m1 m2 m4x m5x m3x z3;go_wp2_with fail
            refine hK.out _ _ trivial (fun _=>?_);clear hK K
            try simp only [Act.put,stT,stZ,stS]
            refine rd1E 4 rfl (fun K hK=>?_)
            go_simp
            refine hK.out _ _ trivial (fun _=>?_);clear hK K
            try simp only [Act.put,stT,stZ,stS]
          rotate_left
          focus
            refine AllReadyH.cons rfl (fun K hK=>?_) AllReadyH.nil
            go_simp
            go_at_call 33
            refine (CV _ (Below.drew (Below.refl _ _))).out.mono ?_;rintro e w3 ⟨fn,D1,d1,u1,fy,fl,fm,D2,d2,u2,rfl,⟨xt,hts,hxe⟩,r3,m3⟩;have HM3:=Hd ((Z0.of_below (r:=r) (Below.drew (Below.refl _ _))).trans m3);have HTS:Hid (TS w3 (Y7 _ w3) xt [.string fn,.slice D1 d1 u1,.string fy,.int .i64 fl,.int .i64 fm,.slice D2 d2 u2]):=Hd (hts);have HXE:=Hd hxe;have K3:=Hd (KX.out.next r3 HM3.out);have OX3:=Hd (OX.out.next HM3.out KX.out.rb (Nat.le_refl _));clear hts hxe r3 m3;obtain ⟨j0,j1,j2,j3,j4,j5,jz⟩:=Z8 K3.out.loc;have y3:=jz 3;have jA:=fun o=>(World.cell?_of_block (a:=⟨b8,3,none⟩) (Below.heap_alloc w3 o _ K3.out.blt)).trans j3;clear jz m0 m1 m2 m4x m5x m3x z3;go_wp2_with fail
            refine hK.out _ _ trivial (fun _=>?_);clear hK K
            try simp only [Act.put,stT,stZ,stS]
            refine rdE (rs:=[1,4]) ?_;refine AllReadyH.cons rfl (fun K hK=>?_) ?_
            focus
             go_simp
             refine hK.out _ _ trivial (fun _=>?_);clear hK K
             try simp only [Act.put,stT,stZ,stS]
             refine rd1E 4 rfl (fun K hK=>?_)
             go_simp
             refine hK.out _ _ trivial (fun _=>?_);clear hK K
             try simp only [Act.put,stT,stZ,stS]
            rotate_left
            focus
             refine AllReadyH.cons rfl (fun K hK=>?_) AllReadyH.nil
             go_simp
             refine hK.out _ _ trivial (fun _=>?_);clear hK K
             try simp only [Act.put,stT,stZ,stS]
             refine rd1E 1 rfl (fun K hK=>?_)
             go_simp
             refine hK.out _ _ trivial (fun _=>?_);clear hK K
             try simp only [Act.put,stT,stZ,stS]
          all_goals
            refine rd1E 5 rfl (fun K hK=>?_);refine step_append_lies _ (by rfl) _ _ 32 (by rfl) Bs 73 i0 (.agg #[.string ⟨#[]⟩,.slice none 0 0,.string ⟨#[]⟩,.int .i64 0,.int .i64 0,.slice none 0 0]) 6 96 Tryz.underlying32 hi hz0 hz1 hz2 (by rfl) (by decide) _ T.len xs (by rfl) (Yw (Yk HRT.out.1 HM3.out HBS.out.1) ((Below.refl _ _).alloc (Nat.le_refl _) _)) _ 1 1 [.string fn,.slice D1 d1 u1,.string fy,.int .i64 fl,.int .i64 fm,.slice D2 d2 u2] (by rfl) (by rfl) (Fh _ _ _ (by first|rfl|(simp;done))) (by intro y hy;simp at hy;rcases hy with rfl|rfl|rfl|rfl|rfl|rfl<;>rfl) (by decide) (by unfold maxLen;omega) (by omega) (by have h1:=K3.out.blt;have h2:=HM3.out.size;have h3:=HBX.out;simp;omega) _ rfl ?_;intro gg cap2 w4 hown4 hgrow hat hlt4;have HG4:=Hd hgrow;have HO4:=Hd hown4;have HT4:=Hd hat;have K4:=Hd (K3.out.grown hgrow (fun c hc=>Nat.lt_of_lt_of_le HBS.out.2 (HVB.out c hc)));have OX4:=Hd (OX3.out.grown hgrow HVB.out (by have h2:=HM3.out.size;have h3:=HBX.out;omega));obtain ⟨x0,x1,x2,x3,x4,x5,xz⟩:=Z8 K4.out.loc;have u3:=xz 3;clear hgrow hown4 hat xz j0 j1 j2 j3 j4 j5 y3 jA;refine hK.out _ _ trivial (fun _=>?_);clear hK K;simp only [Act.put,List.setIfInBounds_toArray];refine rd1E 6 rfl (fun K hK=>?_)
            go_simp
            refine hK.out _ _ trivial (fun _=>?_);clear hK K
            try simp only [Act.put,stT,stZ,stS]
            refine rd1E 7 rfl (fun K hK=>?_)
            go_simp
            refine hK.out _ _ trivial (fun _=>?_);clear hK K
            try simp only [Act.put,stT,stZ,stS]
            refine wpAnyH_done (by kernel_rfl) ?_ _;go_wp2_with fail
            have T4:=RTr.app HBS.out.1 HBX.out HRT.out.1 HRT.out.2.1 HRT.out.2.2 HM3.out HTS.out HO4.out HG4.out HT4.out;have hrun:=HNX.out
            go_roundg g
            case measure=>omega
            case rel =>
             have K5:=K4.out.put 3 (.slice (some ⟨gg,0,none⟩) (T.len+1) cap2);have O5:=OX4.out.put (Nat.le_refl _) (i:=3) (v:=.slice (some ⟨gg,0,none⟩) (T.len+1) cap2);rcases hR1:Zb (fdR d) (.ok ts) with y|a
             · rw [hR1] at hrun K5
               exact ⟨.error y,l,T.snoc xt,_,(fun us e=>by cases e),by rw [TrL.snoc_len];omega,Za ⟨K5,O5,T4.moved Z0.set HBS.out.2,by rw [Vs];exact hrun,by have h9:=(HO4.out.lt gg rfl).2;have h8:=HBX.out;have h7:=HM3.out.size;have h6:=HG4.out.size;simp at h6;simpa [World.setCell] using (by omega:Bs≤w4.heap.size),fun us e=>by cases e⟩⟩
             · rw [hR1] at hrun K5
               have hsf:=Nu hR1;refine ⟨.ok a.2,l++[a.1],T.snoc xt,_,(fun us e=>?_),by rw [TrL.snoc_len];omega,Za ⟨K5,O5,T4.moved Z0.set HBS.out.2,?_,by have h8:=HBX.out;have h7:=HM3.out.size;have h6:=HG4.out.size;simp at h6;simpa [World.setCell] using (by omega:Bs≤w4.heap.size),fun us e=>?_⟩⟩
               · have e:=Except.ok.inj e
                 subst e;have:=hsf.2;rw [TrL.snoc_len];exact ⟨by omega,by omega⟩
               · rw [show decide ((T.snoc xt).len=0)=false by rw [TrL.snoc_len];simp]
                 exact hrun
               · have e:=Except.ok.inj e
                 subst e;refine ⟨?_,HF.out.2.sub hsf.1⟩;rw [HF.out.1,HXE.out a.1 a.2 (by rw [hR1]),Zx]
    focus
      have hT : ¬ T.len=0:=fun h=>hend (.inl h);have t2:((T.len:Int) == 0)=false:=by simp;omega
      have HKX:=Hd (by have hk:=HKX.out;rw [show decide (T.len=0)=false by simp [hT]] at hk;exact hk);have hi7:=Hd (ris r d (.ok ts) cmB _ KX.out.rd);have hc:isS 1 cmB (.ok ts)=true:=by simpa using fun h=>hend (.inr h)
      rw [hc] at hi7;have HC:=Hd hc;clear hc h1 hms hT hend;go_wp2_with fail
      refine hi7.out.mono ?_;rintro e w6 ⟨rfl,hb6⟩;have KX':=Hd (KX.out.next (KX.out.rd.below hb6) (Z0.of_below hb6));have hs7:=Hd (J1 r d (.ok ts) cmB _ KX'.out.rd);have M6:=Hd (Z0.of_below (r:=r) hb6);clear hb6 c0 c1 c2 c3 m0 m1 m2 m3x m4x m5x z3 mL;go_wp2_with fail
      refine hs7.out.mono ?_;rintro e w7 ⟨rfl,hh7,mm7⟩;have K7:=Hd (KX'.out.next hh7 mm7);have O7:=Hd (OX.out.next (M6.out.trans mm7) KX.out.rb (Nat.le_refl _));have T7:=Hd (HRR.out.moved (M6.out.trans mm7) HBS.out.1);have B7:=Hd (Nat.le_trans HBX.out (M6.out.trans mm7).size);clear hh7 mm7;obtain ⟨v0,v1,v2,v3,v4,v5,vz⟩:=Z8 K7.out.loc;obtain ⟨q0,q1,q2,q3,q4,q5,qz⟩:=Z8 K7.out.res;have qf0:=qz 0;have qf1:=qz 1;have qf2:=qz 2;have qf3:=qz 3;have qf4:=qz 4;have qf5:=qz 5;clear vz qz;go_wp2_with fail
      have F:=K7.out.fin (ys:=dfZ) [.int .i64 1,.string (nmV S),.slice A1 n1 k1,.slice Ao T.len co,.slice none 0 0,.slice none 0 0] rfl;have TT:=Iw (w:=w) T7.out (by omega) (by have:=K7.out.bl;have:=HBS.out.2;omega) [.int .i64 1,.string (nmV S),.slice A1 n1 k1,.slice Ao T.len co,.slice none 0 0,.slice none 0 0];have OF:=(O7.out.up B7.out).fin (w:=w) (Nat.le_of_lt K7.out.bl) [.int .i64 1,.string (nmV S),.slice A1 n1 k1,.slice Ao T.len co,.slice none 0 0,.slice none 0 0];refine Y6 (cs:=[.int .i64 1,.string (nmV S),.slice A1 n1 k1,.slice Ao T.len co,.slice none 0 0,.slice none 0 0]) rfl rfl rfl F.1 Tryz.underlying35 ⟨_,rfl⟩ (by kernel_rfl) ?_;have hk:=HKX.out;rw [Ah HC.out] at hk;refine ⟨(nmV S),A1,n1,k1,Ao,T.len,co,none,0,0,none,0,0,rfl,⟨.cons (.one (.int .i64 1)) (.cons (.one (.string (nmV S))) (.cons (.row x1) (.cons (.row T) (.cons (.row .nil) (.cons (.row .nil) .nil))))),TS.int (TS.str NS1.out (Gs OF (TS.row TT (TS.row (TP.none _ _) (TS.row (TP.none _ _) (TS.nil _ _)))))),fun a us e=>?_⟩,?_,F.2.2⟩
      · rw [HR.out,← hk] at e
        obtain ⟨a2,e2,rfl⟩:=Vg e;obtain ⟨a3,e3,rfl⟩:=Vg e2;rw [HF.out.1];rcases hF1:Zb Zw (nmS S) with y1|a1
        · have hk9:=HKZ.out
          rw [hF1] at hk9;rw [show tkS omB (Xb (.error y1:Except Int (List ByteArray × List Tok)))=.error y1 from rfl,Vs] at hk9;rw [← hk9,e3] at hk
          cases hk
        · rw [HX1.out a1.1 a1.2 (by rw [hF1])]
          rfl
      · rw [HR.out,← hk,Y4,Y4,show Xb (Zb (fun ts=>Except.ok ((),ts)) (tkS cmB (.ok ts)))=tkS cmB (.ok ts) from Yf _]
        exact F.2.1
end Go.Proofs.YtkmloefbkgcbkaaGreatDoor
