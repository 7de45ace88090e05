/- The document's Schema: its walk. (gen_prsch.py wrote it.) -/
import Derived.Test.YtkmloefbkgcbkaaGreatDoorSr48
set_option maxRecDepth 100000
set_option maxHeartbeats 16000000
namespace Go.Proofs.YtkmloefbkgcbkaaGreatDoor
open Go.RowKit
abbrev TKO (t:Tok):Obj:=.cells #[.int .i64 t.1,.string t.2] 45
theorem Zzx (s : ByteArray) (w:World) (hs:s.size≤9000):Calls Tryz.prog 6 #[.string s] w fun e w'=>∃ (A0:Option Addr) (n0 k0:Nat) (sq sm:ByteArray) (x:Int),e=.returned (.tuple #[.agg #[.slice A0 n0 k0,.string sq,.string sm],.int .i64 x])∧Res Xw [.slice none 0 0,.string ⟨#[]⟩,.string ⟨#[]⟩] w w' (F7 Ld s.data.toList) x [.slice A0 n0 k0,.string sq,.string sm]∧Below w.heap.size w w':=by
 obtain ⟨i0,hi,hz0,hz1,hz2⟩:=info_parts Zkz;have B0:=Hd (blw w (.cells #[.slice none 0 0,.string ⟨#[]⟩,.string ⟨#[]⟩] 25));have Y0:=Hd (heap_alloc_last w (.cells #[.slice none 0 0,.string ⟨#[]⟩,.string ⟨#[]⟩] 25));have hsz0:Hid ((w.alloc (.cells #[.slice none 0 0,.string ⟨#[]⟩,.string ⟨#[]⟩] 25)).heap.size=w.heap.size+1):=Hd (by simp);have HT:=Hd (Zk7 s (w.alloc (.cells #[.slice none 0 0,.string ⟨#[]⟩,.string ⟨#[]⟩] 25)) hs);have HL:=Hd (Zqi (s:=s) hs);have HG:=Hd (Mr hs);obtain ⟨l,hl⟩:∃ l,s.data.toList=l:=⟨_,rfl⟩;rw [hl] at HT HL HG ⊢;obtain ⟨R,hR⟩:∃ R,F7 Ld l=R:=⟨_,rfl⟩
 have HR0:Hid (N5 ((Zz l).1.length+1) false ⟨[],eB,eB⟩ true R .nil eB eB (So l)):=Hd (by
  unfold So
  by_cases hx:(Zz l).2 ≠ 0
  · rw [if_pos hx]
    show R=.error _;rw [← hR];unfold F7;rw [if_pos hx]
  · rw [if_neg hx]
    refine ⟨rfl,rfl,rfl,fun _=>⟨rfl,rfl⟩,fun h=>(by cases h),HG.out,by rw [U3];omega,by rw [U3];have:=HL.out;simp;omega,?_⟩;rw [if_pos (.inl rfl),← hR];unfold F7;rw [if_neg hx,← U3]
    show Sm _=_;unfold Ld
    cases Sm (C8 (Zz l).1) with
    | error y=>rfl
    | ok D=>simp)
 rw [hR];clear hs hl hR HG
 go_enter Tryz.func6,Tryz.ntmps6
 go_wp2_with fail
 refine HT.out.mono ?_;rintro e w1 ⟨⟨A,cap,rfl,hA⟩,hb1⟩;have B1:=Hd (B0.out.trans (hb1.mono B0.out.size));have Y1:=Hd ((hb1.block w.heap.size (by rw [hsz0.out];omega)).trans Y0.out);have l1:w.heap.size < w1.heap.size:=by have:=hb1.size;have:=hsz0.out;omega
 have R2:=Hd (Yi4 hA (by have:=HL.out;omega));have B2:=Hd (B1.out.alloc B1.out.size (.cells #[.slice A (Zz l).1.length cap,.int .i64 0,.int .i64 0,.int .i64 (Zz l).2] 43));have Y2:=Hd ((Below.heap_alloc w1 (.cells #[.slice A (Zz l).1.length cap,.int .i64 0,.int .i64 0,.int .i64 (Zz l).2] 43) _ l1).trans Y1.out);have LZ:Hid ((w1.alloc (.cells #[.slice A (Zz l).1.length cap,.int .i64 0,.int .i64 0,.int .i64 (Zz l).2] 43)).heap.size=w1.heap.size+1):=Hd (by simp);obtain ⟨wp,hwp⟩:∃ W,w1.alloc (.cells #[.slice A (Zz l).1.length cap,.int .i64 0,.int .i64 0,.int .i64 (Zz l).2] 43)=W:=⟨_,rfl⟩;have R3:=Hd (R2.out.below (blw _ (Zzy (.slice none 0 0) eB eB)));have B3:=Hd (B2.out.alloc B2.out.size (Zzy (.slice none 0 0) eB eB));have Y3:=Hd ((Below.heap_alloc _ (Zzy (.slice none 0 0) eB eB) _ (by rw [LZ.out];omega)).trans Y2.out);have L3:Hid ((w1.alloc (.cells #[.slice A (Zz l).1.length cap,.int .i64 0,.int .i64 0,.int .i64 (Zz l).2] 43)).heap.size < ((w1.alloc (.cells #[.slice A (Zz l).1.length cap,.int .i64 0,.int .i64 0,.int .i64 (Zz l).2] 43)).alloc (Zzy (.slice none 0 0) eB eB)).heap.size):=Hd (by simp);rw [hwp] at R3 B3 Y3 LZ L3;obtain ⟨n0,hn0⟩:∃ n,(Zz l).1.length=n:=⟨_,rfl⟩;rw [hn0] at HL HR0 R3;have z3:Hid ((wp.alloc (Zzy (.slice none 0 0) eB eB)).heap.size=wp.heap.size+1):=Hd (by simp);have Q3:Hid ((wp.alloc (Zzy (.slice none 0 0) eB eB)).heap[wp.heap.size]? = some (Zzy (.slice none 0 0) eB eB)):=Hd (heap_alloc_new _ _);obtain ⟨w0,hw0⟩:∃ W,wp.alloc (Zzy (.slice none 0 0) eB eB)=W:=⟨_,rfl⟩;rw [hw0] at R3 B3 Y3 z3 Q3;rw [LZ.out] at z3 Q3;have K3:Hid (SC n0 w0 w1.heap.size (w1.heap.size+1) (w1.heap.size+1+1) w0 (.slice none 0 0) eB eB (So l)):=Hd ⟨Q3.out,StB.of (Z0.refl w1.heap.size w0) (by rw [z3.out];omega),by omega,by omega,by rw [z3.out];omega,R3.out⟩;clear hA hb1 R2 B2 Y2 B0 Y0 hsz0 HT B1 Y1 R3 Q3 L3;go_wp2_with fail
 go_loopg [8] (n0+1) (fun g v wx=>∃ (Sx:StP) (D:Ub) (fb told:Bool) (V:Value) (T:TrL) (sq sm:ByteArray),v=.bool fb∧T.len+g≤n0+1∧sq.size≤9000∧sm.size≤9000∧Aside (SC n0 w0 w1.heap.size (w1.heap.size+1) (w1.heap.size+1+1) wx V sq sm Sx∧RTr 35 6 (w1.heap.size+1+1) wx V T∧N5 g told D fb R T sq sm Sx))
 case atStart =>
  subst hw0;subst hwp;subst hn0;exact ⟨_,⟨[],eB,eB⟩,true,false,_,.nil,eB,eB,rfl,by show 0+_≤_;omega,by decide,by decide,Za ⟨K3.out,RTr.start _ _ _ _,HR0.out⟩⟩
 case round =>
  obtain ⟨Sx,D,fb,told,V,T,sq,sm,rfl,hTg,hq9,hm9,HA⟩:=hrel;have KX:=Hd HA.out.1;have RX:=Hd HA.out.2.1;have LX:=Hd HA.out.2.2;have YX:=Hd ((KX.out.st.block w.heap.size (by omega) (by omega) (by omega)).trans Y3.out);have BX:=Hd (show Below w.heap.size w wr from ⟨KX.out.st.os.trans B3.out.os,KX.out.st.tape.trans B3.out.tape,KX.out.st.output.trans B3.out.output,Nat.le_trans B3.out.size KX.out.st.size,fun k hk=>(KX.out.st.block k (by omega) (by omega) (by omega)).trans (B3.out.block k hk)⟩);obtain ⟨q0,q1,q2,qz⟩:=Zf YX.out;have qf0:=qz 0;have qf1:=qz 1;have qf2:=qz 2;obtain ⟨A1,kc,rfl⟩:=RX.out.shape;clear HA qz K3;rcases Sx with y|ts
  · obtain ⟨A',n',c',p',dd',x0,h0,_,hin⟩:=KX.out.rd.cells
    obtain ⟨rfl,hy⟩:=hin;obtain ⟨c0,c1,c2,c3,cz⟩:=Zh h0;have t0:(x0 == 0)=false:=by simpa using hy
    have t1:(x0 != 0)=true:=by simpa using hy
    have HY:=Hd hy;clear hy h0 cz;go_wp2_with fail
    go_region
    go_wp2_with fail
    have FD:((setAll wr w.heap.size 0 [.slice none 0 0,.string ⟨#[]⟩,.string ⟨#[]⟩]).drew).heap[w.heap.size]? = some (.cells #[.slice none 0 0,.string ⟨#[]⟩,.string ⟨#[]⟩] 25 (0,0)):=Yu (ys:=[.slice none 0 0,.string ⟨#[]⟩,.string ⟨#[]⟩]) (xs:=[.slice none 0 0,.string ⟨#[]⟩,.string ⟨#[]⟩]) rfl YX.out;have BD:Below w.heap.size w (setAll wr w.heap.size 0 [.slice none 0 0,.string ⟨#[]⟩,.string ⟨#[]⟩]).drew:=Below.drew (Ja (Nat.le_refl _) [.slice none 0 0,.string ⟨#[]⟩,.string ⟨#[]⟩] 0 _ BX.out);refine Re (cs:=[.slice none 0 0,.string ⟨#[]⟩,.string ⟨#[]⟩]) rfl rfl rfl rfl FD Tryz.underlying25 ⟨_,rfl⟩ (by kernel_rfl) ?_;refine ⟨_,_,_,_,_,x0,rfl,?_,BD⟩;have hr:R=.error x0:=LX.out;rw [hr];exact ⟨rfl,HY.out,rfl⟩
  · obtain ⟨A', c',p',dd',h0,hpl,hlen⟩:=KX.out.rd.place
    obtain ⟨c0,c1,c2,c3,cz⟩:=Zh h0;clear h0 cz
    by_cases hrun:fb=true∨ts ≠ []
    · cases gk with
      | zero=>have:=LX.out.2.2.2.2.2.2.1;omega
      | succ g =>
        have HSD:=Hd (Yh4 w1.heap.size 0 (.ok ts) wr KX.out.rd);have HND:=Hd (Yjd LX.out hrun);have HNF:=Hd (Ydg LX.out hrun);have HNR:Hid (told=false→isS 2 Xg (Yt (.ok ts))=true→∀ a b:ByteArray,(∀ p us,Zb Yp (nmS (Yt (.ok ts)))=.ok (p,us)→a=p.1∧b=p.2)→∃ D',N5 g true D' false R T a b (Xb (Zb Yp (nmS (Yt (.ok ts)))))):=Hd (fun ht=>Zyu (by have h:=LX.out;rw [ht] at h;exact h) hrun);have HSM:Hid (told=false→sm=eB):=Hd (fun ht=>(LX.out.2.2.2.1 ht).2)
        have HQ0:Hid ((sq.toList == []) = !told):=Hd (by
          obtain ⟨_,_,_,hf,ht,_⟩:=LX.out
          cases told with
          | true=>exact ht rfl
          | false=>rw [(hf rfl).1];decide +kernel)
        have HGL:Hid (∀ us,nmS (Yt (.ok ts))=.ok us→Yn us):=Hd (fun us e=>by obtain ⟨u1,e1,s1,_⟩:=L7 e;obtain ⟨u2,e2,s2⟩:=Sd e1;rw [← Except.ok.inj e2] at s2;exact (LX.out.2.2.2.2.2.1.sub s2).sub s1);have HLL:Hid (∀ us,nmS (Yt (.ok ts))=.ok us→us.length≤200000):=Hd (fun us e=>by obtain ⟨u1,e1,s1,_⟩:=L7 e;obtain ⟨u2,e2,s2⟩:=Sd e1;rw [← Except.ok.inj e2] at s2;have:=s1.length_le;have:=s2.length_le;omega);refine Or.elim (Bool.eq_false_or_eq_true fb) (fun hb=>?_) (fun hb=>?_)
        focus
          subst hb;clear hrun hpl hlen;go_wp2_with fail
          refine HSD.out.mono ?_;rintro e w5 ⟨rfl,h5,m5⟩
        rotate_left
        focus
          subst hb;have ht:ts ≠ []:=by rcases hrun with h|h;cases h;exact h
          have t2:decide (p' < n0)=true:=by
            have:0 < ts.length:=List.length_pos_iff.2 ht;simp;omega
          clear hrun hpl hlen ht;go_wp2_with fail
          refine HSD.out.mono ?_;rintro e w5 ⟨rfl,h5,m5⟩;clear t2
        all_goals
          have K5:=Hd (KX.out.next h5 m5);have R5:=Hd (RX.out.moved m5 (by omega));have HPK:=Hd (Lz w1.heap.size 0 _ w5 K5.out.rd);clear h5 m5 HSD c0 c1 c2 c3 q0 q1 q2 qf0 qf1 qf2;go_wp2_with fail
          refine HPK.out.mono ?_;rintro e w6 ⟨rfl,hb6⟩;have K6:=Hd (K5.out.next (K5.out.rd.below hb6) (Z0.of_below hb6));have R6:=Hd (R5.out.moved (Z0.of_below (r:=w1.heap.size) hb6) (by omega));clear hb6 HPK K5 R5
          go_upto_region 10 with fail
          have KT:=Hd (K6.out.next (K6.out.rd.below (blw w6 (TKO (X3 (Yt (.ok ts)))))) (Z0.of_below (blw w6 (TKO (X3 (Yt (.ok ts)))))));have RT:=Hd (R6.out.moved (Z0.of_below (r:=w1.heap.size) (blw w6 (TKO (X3 (Yt (.ok ts)))))) (by omega));have TT:=Hd (heap_alloc_last w6 (TKO (X3 (Yt (.ok ts)))));have BT:=Hd (show w1.heap.size+1+1≤w6.heap.size from K6.out.bs);have LT:Hid (w6.heap.size < (w6.alloc (TKO (X3 (Yt (.ok ts))))).heap.size):=Hd (by simp);generalize w6.alloc (TKO (X3 (Yt (.ok ts))))=wt at KT RT TT LT ⊢;generalize w6.heap.size=bt at TT BT LT ⊢;clear K6 R6;obtain ⟨S1,hS1⟩:∃ S1,Yt (.ok ts)=S1:=⟨_,rfl⟩;have HS1:=Hd hS1;rw [hS1] at KT TT HGL HLL HND HNF HNR ⊢;clear hS1
          go_cut [44] (fun t wx=>t=.bool (Nk S1)∧wx=wt)
          case first =>
            obtain ⟨e0,e1,_⟩:=ptc TT.out;obtain ⟨t1,t2,t3,t4,t5⟩:=Ef (X3 S1).2;have HD:Hid (Nk S1=((X3 S1).1 == 2 && !(decide (Yo (X3 S1).2=0)))):=Hd rfl;generalize (X3 S1).1=tk at *;generalize (X3 S1).2=tw at *
            cases h2:(tk == 2) with
            | false =>
              have HE:=Hd (show Nk S1=false by rw [HD.out,h2];rfl);go_wp2_with fail
              go_meet
              exact ⟨by rw [HE.out],rfl⟩
            | true =>
              rcases Zx2 tw with e|e|e|e|e|e
              all_goals
                rw [e] at t1 t2 t3 t4 t5;have HE:=Hd (show Nk S1=_ by rw [HD.out,h2,e]);simp only [decide_true,decide_false,Int.reduceEq] at t1 t2 t3 t4 t5;clear HD e;go_wp2_with fail
                go_meet
                exact ⟨by rw [HE.out];rfl,rfl⟩
          case rest =>
          obtain ⟨rfl,rfl⟩:=hcut
          cases hd:Nk S1 with
          | true =>
            have NI:=Hd (Uu w1.heap.size 0 S1 _ KT.out.rd);obtain ⟨x0,r0,es,enm,ern,hk,epk⟩:=Yk3 hd;go_wp2_with fail
            refine NI.out.mono ?_;rintro e w8 ⟨rfl,h8,m8⟩;have K8:=Hd (KT.out.next h8 m8);have R8:=Hd (RT.out.moved m8 (by omega));have T8:=Hd (m8.keep TT.out (by have:=BT.out;omega));have L8:=Hd (Nat.lt_of_lt_of_le LT.out m8.size);clear h8 m8 NI KT RT TT LT
            go_upto_region 12 with fail
            obtain ⟨y0,y1,y2,yz⟩:=Zf K8.out.loc;obtain ⟨k0,k1,kz⟩:=ptc T8.out;rw [epk] at k1;have CV:=fun wy (hb:Below w8.heap.size w8 wy)=>Hd (Yio x0 hk 0 w1.heap.size (nmS S1) wy (fun us e=>HGL.out us e) (fun us e=>HLL.out us e) (Nat.zero_le _) (K8.out.rd.below hb));obtain ⟨xs,P,hown,hvals,hP⟩:=R8.out;have HVB:Hid (∀ c,(Value.slice A1 T.len kc).ownBlock=some c→w1.heap.size+1+1≤c):=Hd (fun c hc=>(hown.lt c hc).1);have HRT:=Hd (And.intro hown (And.intro hvals hP));have HN:=Hd (HND.out hd);rw [enm] at HN;clear hown hvals hP yz kz hd es enm epk;refine wp_region_held_drew (S:=fun _=>True) (by kernel_rfl) trivial (fun _=>?_);refine tkE (i:=0) (v:=?_) rfl (Or.inl ⟨by rfl,?_⟩) ?_
            rotate_left
            · (intro w _;go_simp;try with_reducible rfl)
            simp only [Act.put,List.setIfInBounds_toArray];refine tkE (i:=2) (v:=?_) rfl (Or.inl ⟨by rfl,?_⟩) ?_
            rotate_left
            · (intro w _;go_simp;try with_reducible rfl)
            simp only [Act.put];refine tkE (i:=3) (v:=?_) rfl (Or.inl ⟨by rfl,?_⟩) ?_
            rotate_left
            · (intro w _;go_simp;try with_reducible rfl)
            simp only [Act.put];refine rdE (rs:=[1,4]) ?_;refine AllReadyH.cons rfl (fun K hK=>?_) ?_
            focus
              go_simp
              refine hK.out _ _ trivial (fun _=>?_);clear hK K
              try simp only [Act.put,stT,stZ,stS]
              refine rd1E 4 rfl (fun K hK=>?_)
              go_simp
              refine hK.out _ _ trivial (fun _=>?_);clear hK K
              try simp only [Act.put,stT,stZ,stS]
              refine rd1E 5 rfl (fun K hK=>?_)
              go_simp
              go_at_call 14
              refine (CV _ (Below.drew (Below.refl _ _))).out.mono ?_;rintro e w3 ⟨nm,A2,n2,k2,A3,n3,k3,A4,n4,k4,A5,n5,k5,rfl,⟨xt,hts,hxe⟩,r3,m3⟩;have HM3:=Hd ((Z0.of_below (r:=w1.heap.size) (Below.drew (Below.refl _ _))).trans m3);have HTS:Hid (TS w3 (Y7 _ w3) xt [.int .i64 (Yo x0),.string nm,.slice A2 n2 k2,.slice A3 n3 k3,.slice A4 n4 k4,.slice A5 n5 k5]):=Hd hts;have HXE:=Hd hxe;have K3:=Hd (K8.out.next r3 HM3.out);clear hts hxe r3 m3;obtain ⟨j0,j1,j2,jz⟩:=Zf K3.out.loc;have jA:=fun o=>(World.cell?_of_block (a:=⟨w1.heap.size+1,0,none⟩) (Below.heap_alloc w3 o _ (show w1.heap.size+1 < w3.heap.size by have:=K3.out.bs;omega))).trans j0;clear jz y0 y1 y2 k0 k1;refine hK.out _ _ trivial (fun _=>?_);clear hK K
              try simp only [Act.put,stT,stZ,stS]
              refine rd1E 6 rfl (fun K hK=>?_)
              go_simp
              refine hK.out _ _ trivial (fun _=>?_);clear hK K
              try simp only [Act.put,stT,stZ,stS]
            rotate_left
            focus
              refine AllReadyH.cons rfl (fun K hK=>?_) AllReadyH.nil
              go_simp
              refine hK.out _ _ trivial (fun _=>?_);clear hK K
              try simp only [Act.put,stT,stZ,stS]
              refine rdE (rs:=[1,5]) ?_;refine AllReadyH.cons rfl (fun K hK=>?_) ?_
              focus
                go_simp
                refine hK.out _ _ trivial (fun _=>?_);clear hK K
                try simp only [Act.put,stT,stZ,stS]
                refine rd1E 5 rfl (fun K hK=>?_)
                go_simp
                go_at_call 14
                refine (CV _ (Below.drew (Below.refl _ _))).out.mono ?_;rintro e w3 ⟨nm,A2,n2,k2,A3,n3,k3,A4,n4,k4,A5,n5,k5,rfl,⟨xt,hts,hxe⟩,r3,m3⟩;have HM3:=Hd ((Z0.of_below (r:=w1.heap.size) (Below.drew (Below.refl _ _))).trans m3);have HTS:Hid (TS w3 (Y7 _ w3) xt [.int .i64 (Yo x0),.string nm,.slice A2 n2 k2,.slice A3 n3 k3,.slice A4 n4 k4,.slice A5 n5 k5]):=Hd hts;have HXE:=Hd hxe;have K3:=Hd (K8.out.next r3 HM3.out);clear hts hxe r3 m3;obtain ⟨j0,j1,j2,jz⟩:=Zf K3.out.loc;have jA:=fun o=>(World.cell?_of_block (a:=⟨w1.heap.size+1,0,none⟩) (Below.heap_alloc w3 o _ (show w1.heap.size+1 < w3.heap.size by have:=K3.out.bs;omega))).trans j0;clear jz y0 y1 y2 k0 k1;refine hK.out _ _ trivial (fun _=>?_);clear hK K
                try simp only [Act.put,stT,stZ,stS]
                refine rd1E 6 rfl (fun K hK=>?_)
                go_simp
                refine hK.out _ _ trivial (fun _=>?_);clear hK K
                try simp only [Act.put,stT,stZ,stS]
              rotate_left
              focus
                refine AllReadyH.cons rfl (fun K hK=>?_) AllReadyH.nil
                go_simp
                go_at_call 14
                refine (CV _ (Below.drew (Below.refl _ _))).out.mono ?_;rintro e w3 ⟨nm,A2,n2,k2,A3,n3,k3,A4,n4,k4,A5,n5,k5,rfl,⟨xt,hts,hxe⟩,r3,m3⟩;have HM3:=Hd ((Z0.of_below (r:=w1.heap.size) (Below.drew (Below.refl _ _))).trans m3);have HTS:Hid (TS w3 (Y7 _ w3) xt [.int .i64 (Yo x0),.string nm,.slice A2 n2 k2,.slice A3 n3 k3,.slice A4 n4 k4,.slice A5 n5 k5]):=Hd hts;have HXE:=Hd hxe;have K3:=Hd (K8.out.next r3 HM3.out);clear hts hxe r3 m3;obtain ⟨j0,j1,j2,jz⟩:=Zf K3.out.loc;have jA:=fun o=>(World.cell?_of_block (a:=⟨w1.heap.size+1,0,none⟩) (Below.heap_alloc w3 o _ (show w1.heap.size+1 < w3.heap.size by have:=K3.out.bs;omega))).trans j0;clear jz y0 y1 y2 k0 k1;refine hK.out _ _ trivial (fun _=>?_);clear hK K
                try simp only [Act.put,stT,stZ,stS]
                refine rdE (rs:=[1,6]) ?_;refine AllReadyH.cons rfl (fun K hK=>?_) ?_
                focus
                 go_simp
                 refine hK.out _ _ trivial (fun _=>?_);clear hK K
                 try simp only [Act.put,stT,stZ,stS]
                 refine rd1E 6 rfl (fun K hK=>?_)
                 go_simp
                 refine hK.out _ _ trivial (fun _=>?_);clear hK K
                 try simp only [Act.put,stT,stZ,stS]
                rotate_left
                focus
                 refine AllReadyH.cons rfl (fun K hK=>?_) AllReadyH.nil
                 go_simp
                 refine hK.out _ _ trivial (fun _=>?_);clear hK K
                 try simp only [Act.put,stT,stZ,stS]
                 refine rd1E 1 rfl (fun K hK=>?_)
                 go_simp
                 refine hK.out _ _ trivial (fun _=>?_);clear hK K
                 try simp only [Act.put,stT,stZ,stS]
            all_goals
              refine rd1E 7 rfl (fun K hK=>?_);refine step_append_lies _ (by rfl) _ _ 23 (by rfl) (w1.heap.size+1+1) 35 i0 (.agg #[.int .i64 0,.string ⟨#[]⟩,.slice none 0 0,.slice none 0 0,.slice none 0 0,.slice none 0 0]) 6 120 Tryz.underlying23 hi hz0 hz1 hz2 (by rfl) (by decide) _ T.len xs (by rfl) (Yw (Yk HRT.out.1 HM3.out (by omega)) ((Below.refl _ _).alloc (Nat.le_refl _) _)) _ 1 1 [.int .i64 (Yo x0),.string nm,.slice A2 n2 k2,.slice A3 n3 k3,.slice A4 n4 k4,.slice A5 n5 k5] (by rfl) (by rfl) (Fh _ _ _ (by first|rfl|(simp;done))) (by intro y hy;simp at hy;rcases hy with rfl|rfl|rfl|rfl|rfl|rfl<;>rfl) (by decide) (by unfold maxLen;have:=HL.out;omega) (by have:=HL.out;omega) (by have h1:=K3.out.bs;simp;omega) _ rfl ?_;intro gg cap2 w4 hown4 hgrow hat hlt4;have HG4:=Hd hgrow;have HO4:=Hd hown4;have HT4:=Hd hat;have K4:=Hd (K3.out.grown hgrow (fun c hc=>HVB.out c hc));obtain ⟨x0',x1',x2',xz⟩:=Zf K4.out.loc;have xf0:=xz 0;clear hgrow hown4 hat xz j0 j1 j2 jA;refine hK.out _ _ trivial (fun _=>?_);clear hK K;simp only [Act.put,List.setIfInBounds_toArray];refine rd1E 8 rfl (fun K hK=>?_)
              go_simp
              refine hK.out _ _ trivial (fun _=>?_);clear hK K
              try simp only [Act.put,stT,stZ,stS]
              refine rd1E 9 rfl (fun K hK=>?_)
              go_simp
              refine hK.out _ _ trivial (fun _=>?_);clear hK K
              try simp only [Act.put,stT,stZ,stS]
              refine wpAnyH_done (by kernel_rfl) ?_ _;go_wp2_with fail
              have T4:=RTr.app (by omega) K8.out.bs HRT.out.1 HRT.out.2.1 HRT.out.2.2 HM3.out HTS.out HO4.out HG4.out HT4.out;obtain ⟨D',hL'⟩:=HN.out xt HXE.out;have K5:=K4.out.put (V':=.slice (some ⟨gg,0,none⟩) (T.len+1) cap2);have T5:=RTr.moved T4 (Z0.set:Z0 (w1.heap.size+1) w4 (w4.setCell ⟨w1.heap.size+1,0,none⟩ (.slice (some ⟨gg,0,none⟩) (T.len+1) cap2))) (by omega)
              go_roundg g
              case measure=>omega
              case rel=>exact ⟨_,D',false,told,_,T.snoc xt,sq,sm,rfl,by rw [TrL.snoc_len];omega,hq9,hm9,Za ⟨K5,T5,hL'⟩⟩
          | false =>
            have SY:=Hd (Tx w1.heap.size 0 S1 Xg _ KT.out.rd);obtain ⟨y0,y1,y2,yz⟩:=Zf KT.out.loc;clear yz TT
            go_upto_region 13 with fail
            go_cut [84] (fun t wx=>t=.bool (isS 2 Xg S1 && !told)∧Aside (SC n0 w0 w1.heap.size (w1.heap.size+1) (w1.heap.size+1+1) wx (.slice A1 T.len kc) sq sm S1∧RTr 35 6 (w1.heap.size+1+1) wx (.slice A1 T.len kc) T))
            case first =>
              go_wp2_with fail
              refine SY.out.mono ?_;rintro e w9 ⟨rfl,hb9⟩;have K9:=Hd (KT.out.next (KT.out.rd.below hb9) (Z0.of_below hb9));have R9:=Hd (RT.out.moved (Z0.of_below (r:=w1.heap.size) hb9) (by omega));obtain ⟨z0,z1,z2,zz⟩:=Zf K9.out.loc;have t6:=HQ0.out;clear hb9 zz y0 y1 y2 KT RT SY
              cases told with
              | true =>
                replace t6:(sq.toList == [])=false:=t6
                cases hs:isS 2 Xg S1 with
                | true=>go_wp2_with fail;go_meet;exact ⟨by rw [hs];rfl,Za ⟨K9.out,R9.out⟩⟩
                | false=>go_wp2_with fail;go_meet;exact ⟨by rw [hs];rfl,Za ⟨K9.out,R9.out⟩⟩
              | false =>
                replace t6:(sq.toList == [])=true:=t6
                cases hs:isS 2 Xg S1 with
                | true=>go_wp2_with fail;go_meet;exact ⟨by rw [hs];rfl,Za ⟨K9.out,R9.out⟩⟩
                | false=>go_wp2_with fail;go_meet;exact ⟨by rw [hs];rfl,Za ⟨K9.out,R9.out⟩⟩
            case rest =>
            obtain ⟨rfl,hk9⟩:=hcut;have K9:=Hd hk9.out.1;have R9:=Hd hk9.out.2;clear hk9 y0 y1 y2 KT RT SY
            cases hd2:(isS 2 Xg S1 && !told) with
            | true =>
              have hi2:isS 2 Xg S1=true:=by rw [Bool.and_eq_true] at hd2;exact hd2.1
              have ht2:told=false:=by rw [Bool.and_eq_true] at hd2;simpa using hd2.2
              have HN:=Hd (HNR.out ht2 hi2);have NI:=Hd (Uu w1.heap.size 0 S1 _ K9.out.rd);obtain rfl:=HSM.out ht2;clear hd2 hi2 ht2;go_wp2_with fail
              refine NI.out.mono ?_;rintro e w10 ⟨rfl,h10,m10⟩;have K10:=Hd (K9.out.next h10 m10);have R10:=Hd (R9.out.moved m10 (by omega));have RO:=Hd (Yo8 w1.heap.size (w1.heap.size+1) (nmS S1) (.slice A1 T.len kc) sq w10 (fun us e=>(HGL.out us e).1) (by omega) K10.out.loc K10.out.rd);clear h10 m10 NI K9 R9;go_wp2_with fail
              refine RO.out.mono ?_;rintro e w11 ⟨rfl,a,b,qs,ha,hb,hab⟩;have K11:=Hd (K10.out.roots qs);have R11:=Hd (R10.out.stb qs.st (by omega) (by omega));obtain ⟨D',hL'⟩:=HN.out a b hab;have HL':=Hd hL';clear qs hab hL' RO;go_wp2_with fail
              go_roundg g
              case measure=>omega
              case rel=>exact ⟨_,D',false,true,_,T,a,b,rfl,by omega,ha,hb,Za ⟨K11.out,R11.out,HL'.out⟩⟩
            | false =>
              have HN:=Hd (HNF.out hd (by cases told with|true=>exact .inl rfl|false=>exact .inr (by simpa using hd2)));have FL:=Hd (N3 w1.heap.size 0 S1 2 (by decide) _ K9.out.rd);clear hd hd2;go_wp2_with fail
              refine FL.out.mono ?_;rintro e w10 ⟨rfl,h10,m10⟩;have K10:=Hd (K9.out.next h10 m10);have R10:=Hd (R9.out.moved m10 (by omega));clear h10 m10;go_wp2_with fail
              go_roundg g
              case measure=>omega
              case rel=>exact ⟨_,D,false,told,_,T,sq,sm,rfl,by omega,hq9,hm9,Za ⟨K10.out,R10.out,HN.out⟩⟩
    · have hf : fb=false:=by cases fb with|true=>exact absurd (.inl rfl) hrun|false=>rfl
      have ht:ts=[]:=by
        rcases ts with _|⟨t,ts⟩
        · rfl
        · exact absurd (.inr (by simp)) hrun
      subst hf ht;have t2:decide (p' < n0)=false:=by simp at hpl ⊢;omega
      obtain ⟨hT,hsq,hsm,hfl,htl,_,_,hlD,hR⟩:=LX.out;rw [if_neg (by simp)] at hR;have HTE:=Hd (show T=Z5 Z9 D.defs∧sq=D.query∧sm=D.mutation from ⟨hT,hsq,hsm⟩);have HRD:=Hd (And.intro hR hlD);obtain ⟨y0,y1,y2,yz⟩:=Zf KX.out.loc;have yf0:=yz 0;have yf1:=yz 1;have yf2:=yz 2;clear hrun hpl hlen yz hR hlD LX hT hsq hsm
      cases told with
      | true =>
        have t6:(sq.toList == [])=false:=htl rfl;clear hfl htl;go_wp2_with fail
        have hFT:=SC.all KX.out RX.out HTE.out (by have:=HRD.out.2;omega) hq9 hm9;have FT:=hFT.fin (w:=w) (by omega) [.slice A1 T.len kc,.string sq,.string sm];refine Re (cs:=[.slice A1 T.len kc,.string sq,.string sm]) rfl rfl rfl rfl (Yu (ys:=[.slice none 0 0,.string ⟨#[]⟩,.string ⟨#[]⟩]) (xs:=[.slice A1 T.len kc,.string sq,.string sm]) rfl YX.out) Tryz.underlying25 ⟨_,rfl⟩ (by kernel_rfl) ?_;refine ⟨_,_,_,_,_,0,rfl,?_,Ja (Nat.le_refl _) [.slice A1 T.len kc,.string sq,.string sm] 0 _ BX.out⟩;rw [HRD.out.1];exact ⟨rfl,FT⟩
      | false =>
        have t6:(sq.toList == [])=true:=by rw [(hfl rfl).1];decide +kernel
        have hm0:=(hfl rfl).2;clear hfl htl
        go_upto_region 20 with fail
        have K1:=Hd (KX.out.put1 ⟨#[81,117,101,114,121]⟩);have R1:=Hd (RTr.moved RX.out (Z0.set:Z0 (w1.heap.size+1) wr (wr.setCell ⟨w1.heap.size+1,1,none⟩ (.string ⟨#[81,117,101,114,121]⟩))) (by omega));rw [hm0] at K1;clear KX RX YX BX y0 y1 y2 yf0 yf1 yf2 c0 c1 c2 c3 q0 q1 q2 qf0 qf1 qf2;generalize wr.setCell ⟨w1.heap.size+1,1,none⟩ (.string ⟨#[81,117,101,114,121]⟩)=wm at K1 R1 ⊢;have HTL:=Hd (show T.len=D.defs.length by rw [HTE.out.1,Zl]);go_wp2_with fail
        go_loopg [10] T.len (fun g v wx=>∃ j:Nat,v=.int .i64 j∧j+g=T.len∧Aside (SC n0 w0 w1.heap.size (w1.heap.size+1) (w1.heap.size+1+1) wx (.slice A1 T.len kc) ⟨#[81,117,101,114,121]⟩ (mB ((D.defs.take j).any Fj)) (.ok [])∧RTr 35 6 (w1.heap.size+1+1) wx (.slice A1 T.len kc) T))
        case atStart=>exact ⟨0,rfl,by omega,Za ⟨K1.out,R1.out⟩⟩
        case round =>
          obtain ⟨j,rfl,hj,HA⟩:=hrel;have K2:=Hd HA.out.1;have R2:=Hd HA.out.2;have YX:=Hd ((K2.out.st.block w.heap.size (by omega) (by omega) (by omega)).trans Y3.out);have BX:Hid (Below w.heap.size w _):=Hd ⟨K2.out.st.os.trans B3.out.os,K2.out.st.tape.trans B3.out.tape,K2.out.st.output.trans B3.out.output,Nat.le_trans B3.out.size K2.out.st.size,fun k hk=>(K2.out.st.block k (by omega) (by omega) (by omega)).trans (B3.out.block k hk)⟩;obtain ⟨y0,y1,y2,yz⟩:=Zf K2.out.loc;have yf2:=yz 2;clear HA K1 R1 yz
          cases gk with
          | zero =>
            obtain rfl:j=T.len:=by omega
            have HFT:=Hd (SC.all (D:=Ynt false D) K2.out R2.out ⟨HTE.out.1,rfl,by rw [HTL.out,List.take_length];exact Yeu _⟩ (by show D.defs.length≤_;have:=HRD.out.2;omega) (by decide) (Ynp _));generalize mB ((D.defs.take T.len).any Fj)=mm at *;obtain ⟨q0,q1,q2,qz⟩:=Zf YX.out;have qf0:=qz 0;have qf1:=qz 1;have qf2:=qz 2;clear qz;go_wp2_with fail
            have FT:=HFT.out.fin (w:=w) (by omega) [.slice A1 T.len kc,.string ⟨#[81,117,101,114,121]⟩,.string mm];refine Re (cs:=[.slice A1 T.len kc,.string ⟨#[81,117,101,114,121]⟩,.string mm]) rfl rfl rfl rfl (Yu (ys:=[.slice none 0 0,.string ⟨#[]⟩,.string ⟨#[]⟩]) (xs:=[.slice A1 T.len kc,.string ⟨#[81,117,101,114,121]⟩,.string mm]) rfl YX.out) Tryz.underlying25 ⟨_,rfl⟩ (by kernel_rfl) ?_;refine ⟨_,_,_,_,_,0,rfl,?_,Ja (Nat.le_refl _) [.slice A1 T.len kc,.string ⟨#[81,117,101,114,121]⟩,.string mm] 0 _ BX.out⟩;rw [HRD.out.1];exact ⟨rfl,FT⟩
          | succ g =>
            have hjl:j < D.defs.length:=by have:=HTL.out;omega
            have HW:Hid (wrap64 ((j:Int)+1)=((j+1:Nat):Int)):=Hd (by have:=HRD.out.2;unfold wrap64;omega);have hrow:=Yhl (by have h:=R2.out;rw [HTE.out.1] at h;exact h) (by have:=HRD.out.2;omega);obtain ⟨b,o,d2,d3,d4,d5,rfl,hbl,g0,g1,g2,g3,g4,g5⟩:=Ye6 hrow (List.getElem?_eq_getElem hjl);have hji:(j:Int) < (T.len:Int):=by omega
            have HX:Hid ((D.defs.take (j+1)).any Fj=((D.defs.take j).any Fj || Fj D.defs[j])):=Hd (by rw [List.take_succ_eq_append_getElem hjl,List.any_append];simp);have HI:Hid (Fj D.defs[j]=(D.defs[j].name.toList == [77,117,116,97,116,105,111,110])):=Hd (by unfold Fj;rw [show Fw.toList=[77,117,116,97,116,105,111,110] by decide +kernel]);generalize D.defs[j]=x at *;clear hrow g0 g2 g3 g4 g5
            cases ht:(x.name.toList == [77,117,116,97,116,105,111,110]) with
            | true =>
              have HT:=Hd (HI.out.trans ht);go_wp2_with fail
              have K4:=K2.out.put2 ⟨#[77,117,116,97,116,105,111,110]⟩;have R4:=RTr.moved R2.out (Z0.set:Z0 (w1.heap.size+1) _ (World.setCell _ ⟨w1.heap.size+1,2,none⟩ (.string ⟨#[77,117,116,97,116,105,111,110]⟩))) (by omega)
              go_roundg g
              case measure=>omega
              case rel=>exact ⟨j+1,by rw [HW.out],by omega,Za ⟨by rw [HX.out,HT.out,Bool.or_true];exact K4,R4⟩⟩
            | false =>
              have HT:=Hd (HI.out.trans ht);go_wp2_with fail
              go_roundg g
              case measure=>omega
              case rel=>exact ⟨j+1,by rw [HW.out],by omega,Za ⟨by rw [HX.out,HT.out,Bool.or_false];exact K2.out,R2.out⟩⟩
end Go.Proofs.YtkmloefbkgcbkaaGreatDoor
