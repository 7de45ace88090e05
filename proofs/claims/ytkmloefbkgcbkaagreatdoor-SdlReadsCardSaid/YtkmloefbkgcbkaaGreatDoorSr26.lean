/- The landed schema: its walk. (gen_sdschema.py wrote it.) -/
import Derived.Test.YtkmloefbkgcbkaaGreatDoorSr25
set_option maxRecDepth 100000
set_option maxHeartbeats 16000000
namespace Go.Proofs.YtkmloefbkgcbkaaGreatDoor
open Go.RowKit
theorem Rb {ts:List Tok} {D:Ub} (h:Sm ts=.ok D):Ld ts=.ok (D,[]):=by unfold Ld;rw [h]
theorem Ll {ts:List Tok} {x:Int} (h:Sm ts=.error x):Ld ts=.error x:=by unfold Ld;rw [h]
theorem Zzn (ts:List Tok) (r:Nat) (w:World) (hG:Yn ts) (hR:Rd w r ts 0) (hK:KRd r w):Calls Tryz.prog 9 #[.pointer (some ⟨r,0,none⟩)] w (Ca r 0 w (N9 Xw) (Ld ts)):=by
 refine cQE (fun Q hQ=>?_);obtain ⟨i0,hi,hz0,hz1,hz2⟩:=info_parts Zkz;have HQ:=Hd hQ;have hr:=hR.lt;have hlen:ts.length≤200000:=by obtain ⟨_,_,_,_,h,_⟩:=hR;exact h
 have K0:=Hd (SK.start w r hr);have B0:=Hd (Fm w Yq7 (Zzy (.slice none 0 0) eB eB));have R0:=Hd (hR.below B0.out);have D0:=Hd (hK.moved (Z0.of_below B0.out));have G0:=Hd hG;clear hQ hR hK hG
 go_enter Tryz.func9,Tryz.ntmps9
 go_wp2_with fail
 go_loopg [4] (ts.length+1) (fun g tv wx=>∃ (D:Ub) (tq:List Tok) (V1:Value) (xs1:List Value) (P1 X1:Nat→Prop) (td:Bool),tq.length+1≤g∧D.defs.length+tq.length≤200000∧tv=.bool td∧Aside (SK w r wx V1 D xs1 P1 X1∧Rd wx r tq 0∧KRd r wx∧Yn tq∧Nb g td D tq=Sm ts))
 case atStart=>exact ⟨⟨[],eB,eB⟩,ts,_,_,_,_,false,Nat.le_refl _,by simpa using hlen,rfl,Za ⟨K0.out,R0.out,D0.out,G0.out,rfl⟩⟩
 case round =>
  obtain ⟨D,tq,V1,xs1,P1,X1,td,hq,hal,rfl,HA⟩:=hrel;have KX:=Hd HA.out.1;have RX:=Hd HA.out.2.1;have DX:=Hd HA.out.2.2.1;have GX:=Hd HA.out.2.2.2.1;have EX:=Hd HA.out.2.2.2.2;clear HA K0 R0 D0 B0 G0;obtain ⟨A1,c1,rfl⟩:=Xi KX.out.r1.own
  cases gk with
  | zero=>omega
  | succ g =>
    go_wp2_with fail
    refine (Ry r tq 0 _ RX.out).mono ?_;rintro e wr1 ⟨rfl,rr,mm⟩;have KY:=Hd (KX.out.next mm);have RY:=Hd rr;have DY:=Hd (DX.out.moved mm);have GY:=Hd (GX.out.sub (Vd tq));have hrl:=(Vd tq).length_le;clear rr mm KX RX DX GX
    cases td with
    | true =>
      have K2:=KY;have R2:=RY;have D2:=DY;have G2:=GY;have HEE:Hid (∀ x,Ut 0 (U1 tq)=.error x→Sm ts=.error x):=Hd (fun x hv=>by rw [← EX.out,Nb];simp only [hv,if_false,false_and,Bool.true_eq_false]);have HEO:Hid (∀ a tq2,Ut 0 (U1 tq)=.ok (a,tq2)→(if tq2.isEmpty=true then .ok (⟨D.defs++[a],D.query,D.mutation⟩:Ub) else Nb g true (⟨D.defs++[a],D.query,D.mutation⟩:Ub) tq2)=Sm ts):=Hd (fun a tq2 hv=>by rw [← EX.out,Nb];simp only [hv,if_true,if_false,false_and,Bool.true_eq_false]);have KD:=Hd (K2.out.next (Z0.of_below (Below.drew (Below.refl _ _))));have RD:=Hd (R2.out.below (Below.drew (Below.refl _ _)));have DD:=Hd (D2.out.moved (Z0.of_below (r:=r) (Below.drew (Below.refl _ _))));obtain ⟨y0,y1,y2,yz⟩:=Zf KD.out.loc;have yf0:=yz 0;have yf1:=yz 1;have yf2:=yz 2;clear yz
      go_upto_region 7 with fail
      cases hv:Ut 0 (U1 tq) with
      | error x =>
        have HE:=Hd (HEE.out _ hv);refine wp_region_held_drew (S:=fun _=>True) (by kernel_rfl) trivial (fun _=>?_);refine tkE (i:=0) (v:=?_) rfl (Or.inl ⟨by rfl,?_⟩) ?_
        rotate_left
        · (intro w _;go_simp;try with_reducible rfl)
        simp only [Act.put,List.setIfInBounds_toArray];refine tkE (i:=2) (v:=?_) rfl (Or.inl ⟨by rfl,?_⟩) ?_
        rotate_left
        · (intro w _;go_simp;try with_reducible rfl)
        simp only [Act.put];refine rdE (rs:=[1,3]) ?_;refine AllReadyH.cons rfl (fun K hK=>?_) ?_
        · skip
          go_simp
          refine hK.out _ _ trivial (fun _=>?_);clear hK K
          try simp only [Act.put,stT,stZ,stS]
          refine rd1E 3 rfl (fun K hK=>?_)
          go_simp
          go_at_call 25
          refine (It 0 (U1 tq) r _ G2.out (Nat.zero_le _) RD.out DD.out).mono ?_;intro e w3 h;rw [hv] at h;obtain ⟨rfl,m3⟩:=Ji h;exact ⟨rfl,HQ.out _ _ (per (Ll HE.out) (KD.out.mv.trans m3))⟩
        refine AllReadyH.cons rfl (fun K hK=>?_) AllReadyH.nil
        go_simp
        go_at_call 25
        refine (It 0 (U1 tq) r _ G2.out (Nat.zero_le _) RD.out DD.out).mono ?_;intro e w3 h;rw [hv] at h;obtain ⟨rfl,m3⟩:=Ji h;exact ⟨rfl,HQ.out _ _ (per (Ll HE.out) (KD.out.mv.trans m3))⟩
      | ok p =>
        obtain ⟨a,tq2⟩:=p;have hlt2:=Nat.lt_of_lt_of_le (Cd hv).2 (Vd tq).length_le;have G3:=Hd (G2.out.sub (Cd hv).1);have HE:=Hd (HEO.out _ _ hv);have HV:=Hd hv;clear hv;refine wp_region_held_drew (S:=fun _=>True) (by kernel_rfl) trivial (fun _=>?_);refine tkE (i:=0) (v:=?_) rfl (Or.inl ⟨by rfl,?_⟩) ?_
        rotate_left
        · (intro w _;go_simp;try with_reducible rfl)
        simp only [Act.put,List.setIfInBounds_toArray];refine tkE (i:=2) (v:=?_) rfl (Or.inl ⟨by rfl,?_⟩) ?_
        rotate_left
        · (intro w _;go_simp;try with_reducible rfl)
        simp only [Act.put];refine rd2E 1 3 rfl rfl (fun K hK=>?_) (fun K hK=>?_)
        focus
          go_simp
          refine hK.out _ _ trivial (fun _=>?_);clear hK K
          try simp only [Act.put,stT,stZ,stS]
          refine rd1E 3 rfl (fun K hK=>?_)
          go_simp
          go_at_call 25
          refine (It 0 (U1 tq) r _ G2.out (Nat.zero_le _) RD.out DD.out).mono ?_;intro e w3 h;rw [HV.out] at h;obtain ⟨⟨v,rfl,hl⟩,r3,m3⟩:=Uv h;obtain ⟨z0,z1,A2,n2,k2,A3,n3,k3,A4,n4,k4,A5,n5,k5,rfl,hts⟩:=Cz hl;have TS3:=Hd hts;have R3:=Hd r3;have M3:=Hd m3;have K3:=Hd (KD.out.next m3);clear h hl r3 m3 hts y0 y1 y2 yf0 yf1 yf2;obtain ⟨j0,j1,j2,jz⟩:=Zf K3.out.loc;have jf0:=jz 0;have jf1:=jz 1;have jf2:=jz 2;clear jz;have jA:=fun o=>(World.cell?_of_block (a:=⟨w.heap.size+1,0,none⟩) (Below.heap_alloc w3 o _ (Nat.lt_of_succ_le K3.out.lt))).trans j0;refine hK.out _ _ trivial (fun _=>?_);clear hK K
          try simp only [Act.put,stT,stZ,stS]
          refine rd1E 4 rfl (fun K hK=>?_)
          go_simp
          refine hK.out _ _ trivial (fun _=>?_);clear hK K
          try simp only [Act.put,stT,stZ,stS]
          refine rd1E 5 rfl (fun K hK=>?_)
          skip
        rotate_left
        focus
          go_simp
          go_at_call 25
          refine (It 0 (U1 tq) r _ G2.out (Nat.zero_le _) RD.out DD.out).mono ?_;intro e w3 h;rw [HV.out] at h;obtain ⟨⟨v,rfl,hl⟩,r3,m3⟩:=Uv h;obtain ⟨z0,z1,A2,n2,k2,A3,n3,k3,A4,n4,k4,A5,n5,k5,rfl,hts⟩:=Cz hl;have TS3:=Hd hts;have R3:=Hd r3;have M3:=Hd m3;have K3:=Hd (KD.out.next m3);clear h hl r3 m3 hts y0 y1 y2 yf0 yf1 yf2;obtain ⟨j0,j1,j2,jz⟩:=Zf K3.out.loc;have jf0:=jz 0;have jf1:=jz 1;have jf2:=jz 2;clear jz;have jA:=fun o=>(World.cell?_of_block (a:=⟨w.heap.size+1,0,none⟩) (Below.heap_alloc w3 o _ (Nat.lt_of_succ_le K3.out.lt))).trans j0;refine hK.out _ _ trivial (fun _=>?_);clear hK K
          try simp only [Act.put,stT,stZ,stS]
          refine rd2E 1 4 rfl rfl (fun K hK=>?_) (fun K hK=>?_)
          focus
            go_simp
            refine hK.out _ _ trivial (fun _=>?_);clear hK K
            try simp only [Act.put,stT,stZ,stS]
            refine rd1E 4 rfl (fun K hK=>?_)
            go_simp
            refine hK.out _ _ trivial (fun _=>?_);clear hK K
            try simp only [Act.put,stT,stZ,stS]
            refine rd1E 5 rfl (fun K hK=>?_)
            skip
          rotate_left
          focus
            go_simp
            refine hK.out _ _ trivial (fun _=>?_);clear hK K
            try simp only [Act.put,stT,stZ,stS]
            refine rd1E 1 rfl (fun K hK=>?_)
            go_simp
            refine hK.out _ _ trivial (fun _=>?_);clear hK K
            try simp only [Act.put,stT,stZ,stS]
            refine rd1E 5 rfl (fun K hK=>?_)
            skip
        all_goals
          refine step_append_lies _ (by rfl) _ _ 23 (by rfl) (w.heap.size+2) 35 i0 (.agg #[.int .i64 0,.string ⟨#[]⟩,.slice none 0 0,.slice none 0 0,.slice none 0 0,.slice none 0 0]) 6 120 Tryz.underlying23 hi hz0 hz1 hz2 (by rfl) (by decide) _ (Z5 Z9 D.defs).len xs1 (by rfl) (Yw K3.out.r1.own ((Below.refl _ _).alloc (Nat.le_refl _) _)) _ 1 1 [.int .i64 z0,.string z1,.slice A2 n2 k2,.slice A3 n3 k3,.slice A4 n4 k4,.slice A5 n5 k5] (by rfl) (by rfl) (fun j u hj=>World.news_of_block (heap_alloc_new _ _) j u hj) (by intro y hy;simp at hy;rcases hy with rfl|rfl|rfl|rfl|rfl|rfl<;>rfl) (by decide) (by unfold maxLen;rw [Zl];omega) (by rw [Zl];omega) (by have h1:=K3.out.lt;simp;omega) _ (by rfl) ?_;intro gg cap2 w4 hown4 hgrow hat hlt4;have HG4:=Hd hgrow;have HO4:=Hd hown4;have HT4:=Hd hat;have HL4:=Hd (K3.out.grown hgrow K3.out.own);clear hgrow hown4 hat j0 j1 j2 jf0 jf1 jf2 jA;obtain ⟨x0,x1,x2,xz⟩:=Zf HL4.out.2.1;have xf0:=xz 0;have xf1:=xz 1;have xf2:=xz 2;clear xz;refine hK.out _ _ trivial (fun _=>?_);clear hK K;simp only [Act.put,List.setIfInBounds_toArray];refine rd1E 6 rfl (fun K hK=>?_)
          go_simp
          refine hK.out _ _ trivial (fun _=>?_);clear hK K
          try simp only [Act.put,stT,stZ,stS]
          refine rd1E 7 rfl (fun K hK=>?_)
          go_simp
          refine hK.out _ _ trivial (fun _=>?_);clear hK K
          try simp only [Act.put,stT,stZ,stS]
          refine wpAnyH_done (by kernel_rfl) ?_ _;obtain ⟨P5,K5⟩:=SK.app (x:=a) KD.out M3.out TS3.out HO4.out HG4.out HT4.out;have G5:=J0 HG4.out (r:=r) (fun b hb=>by have:=K3.out.own b hb;have:=K3.out.hr;omega);have hr9:=K3.out.hr;have R5:=(G5.1 _ _ (R3.out.below (blw _ _))).set (b:=w.heap.size+1) (i:=0) (v:=(.slice (some ⟨gg,0,none⟩) ((Z5 Z9 D.defs).len+1) cap2)) (by omega);have D5:=(G5.2 ((DD.out.moved M3.out).moved (Z0.of_below (blw _ _)))).set (b:=w.heap.size+1) (i:=0) (v:=(.slice (some ⟨gg,0,none⟩) ((Z5 Z9 D.defs).len+1) cap2)) (by omega);have K6:=Hd K5;have R6:=Hd R5;have D6:=Hd D5;clear K5 R5 D5 G5 x0 x1 x2 xf0 xf1 xf2;generalize w4.setCell ⟨w.heap.size+1,0,none⟩ (.slice (some ⟨gg,0,none⟩) ((Z5 Z9 D.defs).len+1) cap2)=w5 at *;go_wp2_with fail
          refine (Vb r tq2 0 _ R6.out).mono ?_;rintro e w6 ⟨rfl,rfl⟩;have hE:=HE.out
          cases hem:tq2.isEmpty with
          | true =>
            rw [hem,if_pos rfl] at hE;have HE2:=Hd hE;have HM:=Hd (List.isEmpty_iff.1 hem);clear hE hem;obtain ⟨y0,y1,y2,yz⟩:=Zf K6.out.loc;have yf0:=yz 0;have yf1:=yz 1;have yf2:=yz 2;clear yz;obtain ⟨u0,u1,u2,uz⟩:=Zf K6.out.res;have uf0:=uz 0;have uf1:=uz 1;have uf2:=uz 2;clear uz;go_wp2_with fail
            have f1:=Yu (b:=w.heap.size) (t:=25) (ys:=[.slice none 0 0,.string ⟨#[]⟩,.string ⟨#[]⟩]) (xs:=[(.slice (some ⟨gg,0,none⟩) ((Z5 Z9 D.defs).len+1) cap2),.string D.query,.string D.mutation]) rfl K6.out.res;have f2:=R6.out.setAll (b:=w.heap.size) K6.out.hr [(.slice (some ⟨gg,0,none⟩) ((Z5 Z9 D.defs).len+1) cap2),.string D.query,.string D.mutation] 0;have f3:=Z0.setAll (r:=r) (b:=w.heap.size) (Nat.le_refl _) [(.slice (some ⟨gg,0,none⟩) ((Z5 Z9 D.defs).len+1) cap2),.string D.query,.string D.mutation] 0 _ K6.out.mv;have FT:=(K6.out.tree (by (try simp only [List.length_append,List.length_singleton]);omega)).fin (w:=w) (Nat.le_succ _) [(.slice (some ⟨gg,0,none⟩) ((Z5 Z9 D.defs).len+1) cap2),.string D.query,.string D.mutation];rw [HM.out] at f2;have FP:=HQ.out _ _ (Yy (a:=(⟨D.defs++[a],D.query,D.mutation⟩:Ub)) (Rb HE2.out.symm) ⟨[(.slice (some ⟨gg,0,none⟩) ((Z5 Z9 D.defs).len+1) cap2),.string D.query,.string D.mutation],rfl,FT⟩ f2 f3);exact Y6 rfl rfl rfl f1 Tryz.underlying25 ⟨_,rfl⟩ (by kernel_rfl) FP
          | false =>
            rw [hem] at hE;simp only [Bool.false_eq_true,if_false] at hE;have HE2:=Hd hE;clear hE hem;go_wp2_with fail
            go_roundg g
            case measure=>omega
            case rel=>exact ⟨(⟨D.defs++[a],D.query,D.mutation⟩:Ub),tq2,_,_,_,_,true,by omega,by (try simp only [List.length_append,List.length_singleton]);omega,rfl,Za ⟨K6.out,R6.out,D6.out,G3.out,HE2.out⟩⟩
    | false =>
      go_wp2_with fail
      refine (Yg r (U1 tq) 0 2 Xg _ RY.out).mono ?_;intro e ws h
      cases hb:atB 2 Xg (U1 tq) with
      | true =>
        rw [hb] at h;obtain ⟨rfl,rr,mm⟩:=h;rw [Jq hb] at rr;have K2:=Hd (KY.out.next mm);have R2:=Hd rr;have D2:=Hd (DY.out.moved mm);have hlt1:=(Zn hb).2;have G2:=Hd (GY.out.sub (Zn hb).1);have HB:=Hd hb;clear rr mm KY RY DY GY hb;go_wp2_with fail
        refine (Ybx 0 (U1 tq).tail r _ G2.out R2.out).mono ?_;intro e w3 h
        cases hv:Yp (U1 tq).tail with
        | error x =>
          rw [hv] at h;obtain ⟨rfl,m3⟩:=Ji h;exact ⟨rfl,HQ.out _ _ (per (Ll (show Sm ts=.error x by rw [← EX.out,Nb];simp only [HB.out,hv,if_true,and_self])) (K2.out.mv.trans m3))⟩
        | ok p =>
          obtain ⟨⟨q,m⟩,tq2⟩:=p;rw [hv] at h;obtain ⟨⟨v,rfl,hl⟩,r3,m3⟩:=Uv h;obtain ⟨rfl,hq1,hm1⟩:=hl
          dsimp only at hq1 hm1
          have hlt2:=(Mg hv).2;have G3:=Hd (G2.out.sub (Mg hv).1);have HE:Hid ((if tq2.isEmpty=true then .ok (⟨D.defs,q,m⟩:Ub) else Nb g true (⟨D.defs,q,m⟩:Ub) tq2)=Sm ts):=Hd (by rw [← EX.out,Nb];simp only [HB.out,hv,if_true,and_self]);have K3:=Hd (K2.out.next m3);have R3:=Hd r3;have D3:=Hd (D2.out.moved m3);have HQ1:=Hd hq1;have HM1:=Hd hm1;clear h r3 m3 K2 R2 D2 hv hq1 hm1;obtain ⟨y0,y1,y2,yz⟩:=Zf K3.out.loc;have yf0:=yz 0;have yf1:=yz 1;have yf2:=yz 2;clear yz
          go_upto_region 8 with fail
          have K6:=Hd (K3.out.roots q m HQ1.out HM1.out);have R6:=Hd ((R3.out.set (b:=w.heap.size+1) (i:=1) (v:=.string q) (by have:=K3.out.hr;omega)).set (b:=w.heap.size+1) (i:=2) (v:=.string m) (by have:=K3.out.hr;omega));have D6:=Hd ((D3.out.set (b:=w.heap.size+1) (i:=1) (v:=.string q) (by have:=K3.out.hr;omega)).set (b:=w.heap.size+1) (i:=2) (v:=.string m) (by have:=K3.out.hr;omega));clear y0 y1 y2 yf0 yf1 yf2;generalize (w3.setCell ⟨w.heap.size+1,1,none⟩ (.string q)).setCell ⟨w.heap.size+1,2,none⟩ (.string m)=w5 at K6 R6 D6 ⊢;go_wp2_with fail
          refine (Vb r tq2 0 _ R6.out).mono ?_;rintro e w6 ⟨rfl,rfl⟩;have hE:=HE.out
          cases hem:tq2.isEmpty with
          | true =>
            rw [hem,if_pos rfl] at hE;have HE2:=Hd hE;have HM:=Hd (List.isEmpty_iff.1 hem);clear hE hem;obtain ⟨y0,y1,y2,yz⟩:=Zf K6.out.loc;have yf0:=yz 0;have yf1:=yz 1;have yf2:=yz 2;clear yz;obtain ⟨u0,u1,u2,uz⟩:=Zf K6.out.res;have uf0:=uz 0;have uf1:=uz 1;have uf2:=uz 2;clear uz;go_wp2_with fail
            have f1:=Yu (b:=w.heap.size) (t:=25) (ys:=[.slice none 0 0,.string ⟨#[]⟩,.string ⟨#[]⟩]) (xs:=[.slice A1 (Z5 Z9 D.defs).len c1,.string q,.string m]) rfl K6.out.res;have f2:=R6.out.setAll (b:=w.heap.size) K6.out.hr [.slice A1 (Z5 Z9 D.defs).len c1,.string q,.string m] 0;have f3:=Z0.setAll (r:=r) (b:=w.heap.size) (Nat.le_refl _) [.slice A1 (Z5 Z9 D.defs).len c1,.string q,.string m] 0 _ K6.out.mv;have FT:=(K6.out.tree (by (try dsimp only);omega)).fin (w:=w) (Nat.le_succ _) [.slice A1 (Z5 Z9 D.defs).len c1,.string q,.string m];rw [HM.out] at f2;have FP:=HQ.out _ _ (Yy (a:=(⟨D.defs,q,m⟩:Ub)) (Rb HE2.out.symm) ⟨[.slice A1 (Z5 Z9 D.defs).len c1,.string q,.string m],rfl,FT⟩ f2 f3);exact Y6 rfl rfl rfl f1 Tryz.underlying25 ⟨_,rfl⟩ (by kernel_rfl) FP
          | false =>
            rw [hem] at hE;simp only [Bool.false_eq_true,if_false] at hE;have HE2:=Hd hE;clear hE hem;go_wp2_with fail
            go_roundg g
            case measure=>omega
            case rel=>exact ⟨(⟨D.defs,q,m⟩:Ub),tq2,_,_,_,_,true,by omega,by (try dsimp only);omega,rfl,Za ⟨K6.out,R6.out,D6.out,G3.out,HE2.out⟩⟩
      | false =>
        rw [hb] at h;obtain ⟨rfl,rr,mm⟩:=h;rw [Uh hb] at rr;have K2:=Hd (KY.out.next mm);have R2:=Hd rr;have D2:=Hd (DY.out.moved mm);have G2:=GY;have HB:=Hd hb;clear rr mm KY RY DY GY hb;have HEE:Hid (∀ x,Ut 0 (U1 tq)=.error x→Sm ts=.error x):=Hd (fun x hv=>by rw [← EX.out,Nb];simp only [HB.out,hv,if_false,and_false,Bool.false_eq_true]);have HEO:Hid (∀ a tq2,Ut 0 (U1 tq)=.ok (a,tq2)→(if tq2.isEmpty=true then .ok (⟨D.defs++[a],Ye,Ge (D.defs++[a])⟩:Ub) else Nb g false (⟨D.defs++[a],D.query,D.mutation⟩:Ub) tq2)=Sm ts):=Hd (fun a tq2 hv=>by rw [← EX.out,Nb];simp only [HB.out,hv,if_false,and_false,Bool.false_eq_true]);have KD:=Hd (K2.out.next (Z0.of_below (Below.drew (Below.refl _ _))));have RD:=Hd (R2.out.below (Below.drew (Below.refl _ _)));have DD:=Hd (D2.out.moved (Z0.of_below (r:=r) (Below.drew (Below.refl _ _))));obtain ⟨y0,y1,y2,yz⟩:=Zf KD.out.loc;have yf0:=yz 0;have yf1:=yz 1;have yf2:=yz 2;clear yz
        go_upto_region 7 with fail
        cases hv:Ut 0 (U1 tq) with
        | error x =>
          have HE:=Hd (HEE.out _ hv);refine wp_region_held_drew (S:=fun _=>True) (by kernel_rfl) trivial (fun _=>?_);refine tkE (i:=0) (v:=?_) rfl (Or.inl ⟨by rfl,?_⟩) ?_
          rotate_left
          · (intro w _;go_simp;try with_reducible rfl)
          simp only [Act.put,List.setIfInBounds_toArray];refine tkE (i:=2) (v:=?_) rfl (Or.inl ⟨by rfl,?_⟩) ?_
          rotate_left
          · (intro w _;go_simp;try with_reducible rfl)
          simp only [Act.put];refine rdE (rs:=[1,3]) ?_;refine AllReadyH.cons rfl (fun K hK=>?_) ?_
          · skip
            go_simp
            refine hK.out _ _ trivial (fun _=>?_);clear hK K
            try simp only [Act.put,stT,stZ,stS]
            refine rd1E 3 rfl (fun K hK=>?_)
            go_simp
            go_at_call 25
            refine (It 0 (U1 tq) r _ G2.out (Nat.zero_le _) RD.out DD.out).mono ?_;intro e w3 h;rw [hv] at h;obtain ⟨rfl,m3⟩:=Ji h;exact ⟨rfl,HQ.out _ _ (per (Ll HE.out) (KD.out.mv.trans m3))⟩
          refine AllReadyH.cons rfl (fun K hK=>?_) AllReadyH.nil
          go_simp
          go_at_call 25
          refine (It 0 (U1 tq) r _ G2.out (Nat.zero_le _) RD.out DD.out).mono ?_;intro e w3 h;rw [hv] at h;obtain ⟨rfl,m3⟩:=Ji h;exact ⟨rfl,HQ.out _ _ (per (Ll HE.out) (KD.out.mv.trans m3))⟩
        | ok p =>
          obtain ⟨a,tq2⟩:=p;have hlt2:=Nat.lt_of_lt_of_le (Cd hv).2 (Vd tq).length_le;have G3:=Hd (G2.out.sub (Cd hv).1);have HE:=Hd (HEO.out _ _ hv);have HV:=Hd hv;clear hv;refine wp_region_held_drew (S:=fun _=>True) (by kernel_rfl) trivial (fun _=>?_);refine tkE (i:=0) (v:=?_) rfl (Or.inl ⟨by rfl,?_⟩) ?_
          rotate_left
          · (intro w _;go_simp;try with_reducible rfl)
          simp only [Act.put,List.setIfInBounds_toArray];refine tkE (i:=2) (v:=?_) rfl (Or.inl ⟨by rfl,?_⟩) ?_
          rotate_left
          · (intro w _;go_simp;try with_reducible rfl)
          simp only [Act.put];refine rd2E 1 3 rfl rfl (fun K hK=>?_) (fun K hK=>?_)
          focus
            go_simp
            refine hK.out _ _ trivial (fun _=>?_);clear hK K
            try simp only [Act.put,stT,stZ,stS]
            refine rd1E 3 rfl (fun K hK=>?_)
            go_simp
            go_at_call 25
            refine (It 0 (U1 tq) r _ G2.out (Nat.zero_le _) RD.out DD.out).mono ?_;intro e w3 h;rw [HV.out] at h;obtain ⟨⟨v,rfl,hl⟩,r3,m3⟩:=Uv h;obtain ⟨z0,z1,A2,n2,k2,A3,n3,k3,A4,n4,k4,A5,n5,k5,rfl,hts⟩:=Cz hl;have TS3:=Hd hts;have R3:=Hd r3;have M3:=Hd m3;have K3:=Hd (KD.out.next m3);clear h hl r3 m3 hts y0 y1 y2 yf0 yf1 yf2;obtain ⟨j0,j1,j2,jz⟩:=Zf K3.out.loc;have jf0:=jz 0;have jf1:=jz 1;have jf2:=jz 2;clear jz;have jA:=fun o=>(World.cell?_of_block (a:=⟨w.heap.size+1,0,none⟩) (Below.heap_alloc w3 o _ (Nat.lt_of_succ_le K3.out.lt))).trans j0;refine hK.out _ _ trivial (fun _=>?_);clear hK K
            try simp only [Act.put,stT,stZ,stS]
            refine rd1E 4 rfl (fun K hK=>?_)
            go_simp
            refine hK.out _ _ trivial (fun _=>?_);clear hK K
            try simp only [Act.put,stT,stZ,stS]
            refine rd1E 5 rfl (fun K hK=>?_)
            skip
          rotate_left
          focus
            go_simp
            go_at_call 25
            refine (It 0 (U1 tq) r _ G2.out (Nat.zero_le _) RD.out DD.out).mono ?_;intro e w3 h;rw [HV.out] at h;obtain ⟨⟨v,rfl,hl⟩,r3,m3⟩:=Uv h;obtain ⟨z0,z1,A2,n2,k2,A3,n3,k3,A4,n4,k4,A5,n5,k5,rfl,hts⟩:=Cz hl;have TS3:=Hd hts;have R3:=Hd r3;have M3:=Hd m3;have K3:=Hd (KD.out.next m3);clear h hl r3 m3 hts y0 y1 y2 yf0 yf1 yf2;obtain ⟨j0,j1,j2,jz⟩:=Zf K3.out.loc;have jf0:=jz 0;have jf1:=jz 1;have jf2:=jz 2;clear jz;have jA:=fun o=>(World.cell?_of_block (a:=⟨w.heap.size+1,0,none⟩) (Below.heap_alloc w3 o _ (Nat.lt_of_succ_le K3.out.lt))).trans j0;refine hK.out _ _ trivial (fun _=>?_);clear hK K
            try simp only [Act.put,stT,stZ,stS]
            refine rd2E 1 4 rfl rfl (fun K hK=>?_) (fun K hK=>?_)
            focus
              go_simp
              refine hK.out _ _ trivial (fun _=>?_);clear hK K
              try simp only [Act.put,stT,stZ,stS]
              refine rd1E 4 rfl (fun K hK=>?_)
              go_simp
              refine hK.out _ _ trivial (fun _=>?_);clear hK K
              try simp only [Act.put,stT,stZ,stS]
              refine rd1E 5 rfl (fun K hK=>?_)
              skip
            rotate_left
            focus
              go_simp
              refine hK.out _ _ trivial (fun _=>?_);clear hK K
              try simp only [Act.put,stT,stZ,stS]
              refine rd1E 1 rfl (fun K hK=>?_)
              go_simp
              refine hK.out _ _ trivial (fun _=>?_);clear hK K
              try simp only [Act.put,stT,stZ,stS]
              refine rd1E 5 rfl (fun K hK=>?_)
              skip
          all_goals
            refine step_append_lies _ (by rfl) _ _ 23 (by rfl) (w.heap.size+2) 35 i0 (.agg #[.int .i64 0,.string ⟨#[]⟩,.slice none 0 0,.slice none 0 0,.slice none 0 0,.slice none 0 0]) 6 120 Tryz.underlying23 hi hz0 hz1 hz2 (by rfl) (by decide) _ (Z5 Z9 D.defs).len xs1 (by rfl) (Yw K3.out.r1.own ((Below.refl _ _).alloc (Nat.le_refl _) _)) _ 1 1 [.int .i64 z0,.string z1,.slice A2 n2 k2,.slice A3 n3 k3,.slice A4 n4 k4,.slice A5 n5 k5] (by rfl) (by rfl) (fun j u hj=>World.news_of_block (heap_alloc_new _ _) j u hj) (by intro y hy;simp at hy;rcases hy with rfl|rfl|rfl|rfl|rfl|rfl<;>rfl) (by decide) (by unfold maxLen;rw [Zl];omega) (by rw [Zl];omega) (by have h1:=K3.out.lt;simp;omega) _ (by rfl) ?_;intro gg cap2 w4 hown4 hgrow hat hlt4;have HG4:=Hd hgrow;have HO4:=Hd hown4;have HT4:=Hd hat;have HL4:=Hd (K3.out.grown hgrow K3.out.own);clear hgrow hown4 hat j0 j1 j2 jf0 jf1 jf2 jA;obtain ⟨x0,x1,x2,xz⟩:=Zf HL4.out.2.1;have xf0:=xz 0;have xf1:=xz 1;have xf2:=xz 2;clear xz;refine hK.out _ _ trivial (fun _=>?_);clear hK K;simp only [Act.put,List.setIfInBounds_toArray];refine rd1E 6 rfl (fun K hK=>?_)
            go_simp
            refine hK.out _ _ trivial (fun _=>?_);clear hK K
            try simp only [Act.put,stT,stZ,stS]
            refine rd1E 7 rfl (fun K hK=>?_)
            go_simp
            refine hK.out _ _ trivial (fun _=>?_);clear hK K
            try simp only [Act.put,stT,stZ,stS]
            refine wpAnyH_done (by kernel_rfl) ?_ _;obtain ⟨P5,K5⟩:=SK.app (x:=a) KD.out M3.out TS3.out HO4.out HG4.out HT4.out;have G5:=J0 HG4.out (r:=r) (fun b hb=>by have:=K3.out.own b hb;have:=K3.out.hr;omega);have hr9:=K3.out.hr;have R5:=(G5.1 _ _ (R3.out.below (blw _ _))).set (b:=w.heap.size+1) (i:=0) (v:=(.slice (some ⟨gg,0,none⟩) ((Z5 Z9 D.defs).len+1) cap2)) (by omega);have D5:=(G5.2 ((DD.out.moved M3.out).moved (Z0.of_below (blw _ _)))).set (b:=w.heap.size+1) (i:=0) (v:=(.slice (some ⟨gg,0,none⟩) ((Z5 Z9 D.defs).len+1) cap2)) (by omega);have K6:=Hd K5;have R6:=Hd R5;have D6:=Hd D5;clear K5 R5 D5 G5 x0 x1 x2 xf0 xf1 xf2;generalize w4.setCell ⟨w.heap.size+1,0,none⟩ (.slice (some ⟨gg,0,none⟩) ((Z5 Z9 D.defs).len+1) cap2)=w5 at *;go_wp2_with fail
            refine (Vb r tq2 0 _ R6.out).mono ?_;rintro e w6 ⟨rfl,rfl⟩;have hE:=HE.out
            cases hem:tq2.isEmpty with
            | true =>
              rw [hem,if_pos rfl] at hE;have HE2:=Hd hE;have HM:=Hd (List.isEmpty_iff.1 hem);clear hE hem;obtain ⟨y0,y1,y2,yz⟩:=Zf K6.out.loc;have yf0:=yz 0;have yf1:=yz 1;have yf2:=yz 2;clear yz;obtain ⟨hn9,hrow⟩:=K6.out.row (by simp only [List.length_append,List.length_singleton];omega);have HC9:=Hd (Ya2 _ _ cap2 _ (by simp only [List.length_append,List.length_singleton];omega) hrow);rw [← hn9] at HC9;clear hrow hn9;go_wp2_with fail
              refine HC9.out.mono ?_;rintro e w7 ⟨rfl,hb7⟩;have K7:=Hd (K6.out.next (Z0.of_below hb7));have R7:=Hd (R6.out.below hb7);clear hb7 y0 y1 y2 yf0 yf1 yf2;obtain ⟨un,hun⟩:∃ z,Ge (D.defs++[a])=z:=⟨_,rfl⟩;rw [hun] at HE2;rw [show Ge (({ defs:=D.defs++[a],query:=D.query,mutation:=D.mutation } : Ub).defs)=un from hun];have HUN:=Hd (show un.size≤9000 by rw [← hun];unfold Ge;split<;>decide);clear hun;obtain ⟨y0,y1,y2,yz⟩:=Zf K7.out.loc;have yf0:=yz 0;have yf1:=yz 1;have yf2:=yz 2;clear yz
              go_upto_region 11 with fail
              have K8:=Hd (K7.out.roots Ye un (by decide) HUN.out);have R8:=Hd ((R7.out.set (b:=w.heap.size+1) (i:=1) (v:=.string Ye) (by have:=K7.out.hr;omega)).set (b:=w.heap.size+1) (i:=2) (v:=.string un) (by have:=K7.out.hr;omega));clear y0 y1 y2 yf0 yf1 yf2;generalize (w7.setCell ⟨w.heap.size+1,1,none⟩ (.string Ye)).setCell ⟨w.heap.size+1,2,none⟩ (.string un)=w8 at K8 R8 ⊢;obtain ⟨y0,y1,y2,yz⟩:=Zf K8.out.loc;have yf0:=yz 0;have yf1:=yz 1;have yf2:=yz 2;clear yz;obtain ⟨u0,u1,u2,uz⟩:=Zf K8.out.res;have uf0:=uz 0;have uf1:=uz 1;have uf2:=uz 2;clear uz;go_wp2_with fail
              have f1:=Yu (b:=w.heap.size) (t:=25) (ys:=[.slice none 0 0,.string ⟨#[]⟩,.string ⟨#[]⟩]) (xs:=[(.slice (some ⟨gg,0,none⟩) ((Z5 Z9 D.defs).len+1) cap2),.string Ye,.string un]) rfl K8.out.res;have f2:=R8.out.setAll (b:=w.heap.size) K8.out.hr [(.slice (some ⟨gg,0,none⟩) ((Z5 Z9 D.defs).len+1) cap2),.string Ye,.string un] 0;have f3:=Z0.setAll (r:=r) (b:=w.heap.size) (Nat.le_refl _) [(.slice (some ⟨gg,0,none⟩) ((Z5 Z9 D.defs).len+1) cap2),.string Ye,.string un] 0 _ K8.out.mv;have FT:=(K8.out.tree (by (try simp only [List.length_append,List.length_singleton]);omega)).fin (w:=w) (Nat.le_succ _) [(.slice (some ⟨gg,0,none⟩) ((Z5 Z9 D.defs).len+1) cap2),.string Ye,.string un];rw [HM.out] at f2;have FP:=HQ.out _ _ (Yy (a:=⟨D.defs++[a],Ye,un⟩) (Rb HE2.out.symm) ⟨[(.slice (some ⟨gg,0,none⟩) ((Z5 Z9 D.defs).len+1) cap2),.string Ye,.string un],rfl,FT⟩ f2 f3);exact Y6 rfl rfl rfl f1 Tryz.underlying25 ⟨_,rfl⟩ (by kernel_rfl) FP
            | false =>
              rw [hem] at hE;simp only [Bool.false_eq_true,if_false] at hE;have HE2:=Hd hE;clear hE hem;go_wp2_with fail
              go_roundg g
              case measure=>omega
              case rel=>exact ⟨(⟨D.defs++[a],D.query,D.mutation⟩:Ub),tq2,_,_,_,_,false,by omega,by (try simp only [List.length_append,List.length_singleton]);omega,rfl,Za ⟨K6.out,R6.out,D6.out,G3.out,HE2.out⟩⟩
end Go.Proofs.YtkmloefbkgcbkaaGreatDoor
