/- The document's reader of values: maps. (gen_prlist.py wrote it.) -/
import Derived.Test.YtkmloefbkgcbkaaGreatDoorSr36
set_option maxRecDepth 100000
set_option maxHeartbeats 8000000
namespace Go.Proofs.YtkmloefbkgcbkaaGreatDoor
open Go.RowKit
variable {nT:Nat}
theorem Ypd (N : Nat) (IH:Yq8 nT N) (fx:Bool) (d r:Nat) (tx:ByteArray) (us:List Tok) (w:World) (hG:Zs ((1,tx) :: us)) (hN:us.length≤N) (hd:d≤16) (hb0:isS 1 J5 (.ok ((1,tx) :: us))=false) (hb1:isS 1 oB (.ok ((1,tx) :: us))=false) (hb:isS 1 omB (.ok ((1,tx) :: us))=true) (h:RP nT w r d (.ok ((1,tx) :: us))):Calls Tryz.prog 98 #[.pointer (some ⟨r,0,none⟩),.bool fx] w (Yad nT fx d r (.ok ((1,tx) :: us)) w):=by
 obtain ⟨i0,hi,hz0,hz1,hz2⟩:=info_parts Aw;have HR:=Hd (Yg3 fx d hb);have HIH:=Hd IH;have HD:=Hd hd;have hln:us.length≤200000:=by obtain ⟨_,_,_,_,_,_,_,h1,_,_,_,h2⟩:=h;have:=congrArg List.length h2.2.2;simp at this;omega
 have HOK:Hid (∀ ts,Bb d omB (.ok ((1,tx) :: us))=.ok ts→ts=us∧d+1≤16):=Hd (fun ts e=>by
  by_cases h16:d=16
  · rw [Dx hb h16] at e;cases e
  · rw [Ob (fun hh=>h16 hh.2)] at e
    obtain ⟨t9,ts9,e9,e8⟩:=Xr hb;rw [e8] at e;have e9:=Except.ok.inj e9;have e:=Except.ok.inj e;injection e9 with _ e9
    exact ⟨by rw [← e,← e9],by omega⟩)
 obtain ⟨Kc,hKc⟩:∃ K,msS fx (d+1) .nil (Bb d omB (.ok ((1,tx) :: us)))=K:=⟨_,rfl⟩;rw [hKc] at HR;have HKC:=Hd hKc;have HG:=Hd (show Zs us from fun t ht=>hG t (List.mem_cons_of_mem _ ht));have K0:=Hd (Q0.start h #[.int .i64 0,.int .i64 0,.string ⟨#[]⟩,.slice none 0 0,.slice none 0 0] 94);have HP:Hid (Calls Tryz.prog 12 #[.pointer (some ⟨r,0,none⟩)] (w.alloc (.cells #[.int .i64 0,.int .i64 0,.string ⟨#[]⟩,.slice none 0 0,.slice none 0 0] 94)) fun e w'=>e=.returned (.agg #[.int .i64 1,.string tx])∧Below (w.alloc (.cells #[.int .i64 0,.int .i64 0,.string ⟨#[]⟩,.slice none 0 0,.slice none 0 0] 94)).heap.size (w.alloc (.cells #[.int .i64 0,.int .i64 0,.string ⟨#[]⟩,.slice none 0 0,.slice none 0 0] 94)) w'):=Hd (Lz r d _ _ K0.out.rd);have HB:=Hd (And.intro hb0 (And.intro hb1 hb));clear h hG hd hKc IH hb hb1 hb0
 go_enter Tryz.func98,Tryz.ntmps98
 go_wp2_with fail
 refine HP.out.mono ?_;rintro e w1 ⟨rfl,hb1⟩;have K1:=Hd (K0.out.next (K0.out.rd.below hb1) (Z0.of_below hb1));have K2:=Hd (K1.out.next (K1.out.rd.below (blw w1 (.cells #[.int .i64 1,.string tx] 45))) (Z0.of_below (blw w1 (.cells #[.int .i64 1,.string tx] 45))));have I2:=Hd (ris r d _ J5 _ K2.out.rd);rw [HB.out.1] at I2;clear hb1;go_wp2_with fail
 refine I2.out.mono ?_;rintro e w3 ⟨rfl,hb3⟩;have K3:=Hd (K2.out.next (K2.out.rd.below hb3) (Z0.of_below hb3));have I3:=Hd (ris r d _ oB _ K3.out.rd);rw [HB.out.2.1] at I3;clear hb3 I2;go_wp2_with fail
 refine I3.out.mono ?_;rintro e w4 ⟨rfl,hb4⟩;have K4:=Hd (K3.out.next (K3.out.rd.below hb4) (Z0.of_below hb4));clear hb4 I3;have I4:=Hd (ris r d _ omB _ K4.out.rd);rw [HB.out.2.2] at I4;go_wp2_with fail
 refine I4.out.mono ?_;rintro e w5 ⟨rfl,hb5⟩;have K5:=Hd (K4.out.next (K4.out.rd.below hb5) (Z0.of_below hb5));have HO:=Hd (Yq0 r d _ omB w5 HD.out K5.out.rd);clear hb5 I4;go_wp2_with fail
 refine HO.out.mono ?_;rintro e w6 ⟨rfl,h6,m6⟩;have K6:=Hd (Q1.make (K5.out.next h6 m6) #[.int .i64 7,.int .i64 0,.string ⟨#[]⟩,.slice none 0 0,.slice none 0 0] 94);clear h6 m6 HO;obtain ⟨b8,hb8⟩:∃ b,w6.heap.size=b:=⟨_,rfl⟩;rw [hb8] at K6;go_wp2_with fail
 clear hb8
 go_loopg [] (us.length+1) (fun g wx=>∃ (Sx:StP) (l:VM) (T:TrL) (V:Value),(∀ ts,Sx=.ok ts→ts.length < g∧T.len+ts.length≤200000)∧T.len≤200001∧Aside (Q1 nT w r wx (.cells #[.int .i64 0,.int .i64 0,.string ⟨#[]⟩,.slice none 0 0,.slice none 0 0] 94 (0,0)) b8 (.cells #[.int .i64 7,.int .i64 0,.string ⟨#[]⟩,.slice none 0 0,V] 94 (0,0)) Sx (d+1)∧RTr 151 6 (b8+1) wx V T∧msS fx (d+1) l Sx=Kc∧∀ ts,Sx=.ok ts→T=F2 l∧Zs ts∧ts.length≤N∧d+1≤16))
 case atStart =>
  refine ⟨_,.nil,.nil,.slice none 0 0,fun ts e=>?_,Nat.zero_le _,Za ⟨K6.out,RTr.start _ _ _ _,HKC.out,fun ts e=>?_⟩⟩
  · obtain ⟨rfl,_⟩:=HOK.out ts e
    exact ⟨by omega,by show 0+_≤_;omega⟩
  · obtain ⟨rfl,h16⟩:=HOK.out ts e
    exact ⟨rfl,HG.out,hN,h16⟩
 case round =>
  obtain ⟨Sx,l,T,V,hms,hTl,HA⟩:=hrel;have KX:=Hd HA.out.1;have HRR:=Hd HA.out.2.1;have HKX:=Hd HA.out.2.2.1;have HFX:=Hd HA.out.2.2.2;clear HA K6;obtain ⟨Ao,co,rfl⟩:=HRR.out.shape;obtain ⟨A,n,c,p,dd,x0,h0,h1,h2⟩:=KX.out.rd.cells;obtain ⟨c0,c1,c2,c3,cz⟩:=Zh h0;clear cz h0;rcases Sx with y|ts
  · obtain ⟨rfl,hy⟩:=h2
    have t1:(x0 == 0)=false:=by simpa using hy
    have hs7:=Hd (Yif r d (.error x0) cmB _ HD.out KX.out.rd);have HKX:=Hd (show (.error x0:Except Int (VM × List Tok))=Kc from HKX.out);clear hy h1 hms;go_wp2_with fail
    refine hs7.out.mono ?_;rintro e w7 ⟨rfl,hh7,mm7⟩;have M7:=Hd mm7;clear c0 c1 c2 c3;have K7:=Hd (KX.out.next hh7 mm7);obtain ⟨k0,k1,k2,k3,k4,kz⟩:=gvc K7.out.loc;obtain ⟨q0,q1,q2,q3,q4,qz⟩:=gvc K7.out.res;have qf0:=qz 0;have qf1:=qz 1;have qf2:=qz 2;have qf3:=qz 3;have qf4:=qz 4;clear hh7 mm7 kz qz;go_wp2_with fail
    have F:=K7.out.fin (ys:=vaZ) [.int .i64 7,.int .i64 0,.string ⟨#[]⟩,.slice none 0 0,.slice Ao T.len co] rfl;have TT:=Iw (w:=w) (RTr.moved HRR.out M7.out (by have:=KX.out.rb;omega)) (by omega) (by have:=KX.out.bl;omega) [.int .i64 7,.int .i64 0,.string ⟨#[]⟩,.slice none 0 0,.slice Ao T.len co];refine Y6 (cs:=[.int .i64 7,.int .i64 0,.string ⟨#[]⟩,.slice none 0 0,.slice Ao T.len co]) rfl rfl rfl F.1 Tryz.underlying94 ⟨_,rfl⟩ (by kernel_rfl) ?_;have hk:=HKX.out;refine ⟨_,_,_,_,_,_,_,_,_,rfl,⟨.cons (.one (.int .i64 7)) (.cons (.one (.int .i64 0)) (.cons (.one (.string ⟨#[]⟩)) (.cons (.row .nil) (.cons (.row T) .nil)))),TS.int (TS.int (TS.str (Nat.zero_le _) (TS.row (TP.none _ _) (TS.row TT (TS.nil _ _))))),fun a us e=>?_⟩,?_,F.2.2⟩
    · rw [HR.out,← hk] at e
      cases e
    · rw [HR.out,← hk]
      exact F.2.1
  · obtain ⟨rfl,rfl⟩:=h2
    have HF:=Hd (HFX.out ts rfl);obtain ⟨hg1,hg2⟩:=hms ts rfl;have hi7:=Hd (ris r (d+1) (.ok ts) cmB _ KX.out.rd)
    cases hc:isS 1 cmB (.ok ts) with
    | true =>
      rw [hc] at hi7;have HC:=Hd hc;clear hc h1 hms;go_wp2_with fail
      refine hi7.out.mono ?_;rintro e w6' ⟨rfl,hb6⟩;have KX':=Hd (KX.out.next (KX.out.rd.below hb6) (Z0.of_below hb6));have HRR':=Hd (HRR.out.moved (Z0.of_below (r:=r) hb6) (by have:=KX.out.rb;omega));have hs7:=Hd (Yif r d (.ok ts) cmB _ HD.out KX'.out.rd);clear hb6 c0 c1 c2 c3 KX HRR;have KX:=KX';have HRR:=HRR';go_wp2_with fail
      refine hs7.out.mono ?_;rintro e w7 ⟨rfl,hh7,mm7⟩;have M7:=Hd mm7;have K7:=Hd (KX.out.next hh7 mm7);obtain ⟨k0,k1,k2,k3,k4,kz⟩:=gvc K7.out.loc;obtain ⟨q0,q1,q2,q3,q4,qz⟩:=gvc K7.out.res;have qf0:=qz 0;have qf1:=qz 1;have qf2:=qz 2;have qf3:=qz 3;have qf4:=qz 4;clear hh7 mm7 kz qz;go_wp2_with fail
      have F:=K7.out.fin (ys:=vaZ) [.int .i64 7,.int .i64 0,.string ⟨#[]⟩,.slice none 0 0,.slice Ao T.len co] rfl;have TT:=Iw (w:=w) (RTr.moved HRR.out M7.out (by have:=KX.out.rb;omega)) (by omega) (by have:=KX.out.bl;omega) [.int .i64 7,.int .i64 0,.string ⟨#[]⟩,.slice none 0 0,.slice Ao T.len co];refine Y6 (cs:=[.int .i64 7,.int .i64 0,.string ⟨#[]⟩,.slice none 0 0,.slice Ao T.len co]) rfl rfl rfl F.1 Tryz.underlying94 ⟨_,rfl⟩ (by kernel_rfl) ?_;have hk:=HKX.out;rw [Ypt HC.out] at hk;refine ⟨_,_,_,_,_,_,_,_,_,rfl,⟨.cons (.one (.int .i64 7)) (.cons (.one (.int .i64 0)) (.cons (.one (.string ⟨#[]⟩)) (.cons (.row .nil) (.cons (.row T) .nil)))),TS.int (TS.int (TS.str (Nat.zero_le _) (TS.row (TP.none _ _) (TS.row TT (TS.nil _ _))))),fun a us e=>?_⟩,?_,F.2.2⟩
      · rw [HR.out,← hk] at e
        obtain ⟨a2,e2,rfl⟩:=Vg e;obtain ⟨a3,e3,rfl⟩:=Vg e2;rw [HF.out.1]
        rfl
      · rw [HR.out,← hk,Y4,Y4,show Xb (Zb (fun ts=>Except.ok ((),ts)) (tkS cmB (.ok ts)))=tkS cmB (.ok ts) from Yf _]
        exact F.2.1
    | false =>
      rw [hc] at hi7;have HNX:=Hd (by have hk:=HKX.out;rw [Ykv hc] at hk;exact hk)
      cases gk with
      | zero=>omega
      | succ g =>
        clear hc h1 hms;go_wp2_with fail
        refine hi7.out.mono ?_;rintro e w6' ⟨rfl,hb6⟩;have KX':=Hd (KX.out.next (KX.out.rd.below hb6) (Z0.of_below hb6));have HRR':=Hd (HRR.out.moved (Z0.of_below (r:=r) hb6) (by have:=KX.out.rb;omega));have CV:=fun wx (hb:Below w6'.heap.size w6' wx)=>Hd (HIH.out fx (d+1) (.ok ts) r wx (fun us e=>by rw [← Except.ok.inj e];exact HF.out.2.1) (fun us e=>by rw [← Except.ok.inj e];exact HF.out.2.2.1) HF.out.2.2.2 (KX'.out.rd.below hb));clear hb6 c0 c1 c2 c3 KX HRR;have KX:=KX';obtain ⟨m0,m1,m2,m3,m4,mz⟩:=gvc KX.out.loc;have z3:=mz 4;obtain ⟨xs,P,hown,hvals,hP⟩:=HRR'.out;have HVB:Hid (∀ c,(Value.slice Ao T.len co).ownBlock=some c→b8 < c):=Hd (fun c hc=>by have:=(hown.lt c hc).1;omega);have HRT:=Hd (And.intro hown (And.intro hvals hP));clear mz hown hvals hP;go_wp2_with fail
        refine wp_region_held_drew (S:=fun _=>True) (by kernel_rfl) trivial (fun _=>?_);refine tkE (i:=0) (v:=?_) rfl (Or.inl ⟨by rfl,?_⟩) ?_
        rotate_left
        · (intro w _;go_simp;try with_reducible rfl)
        simp only [Act.put,List.setIfInBounds_toArray];refine tkE (i:=2) (v:=?_) rfl (Or.inl ⟨by rfl,?_⟩) ?_
        rotate_left
        · (intro w _;go_simp;try with_reducible rfl)
        simp only [Act.put];refine tkE (i:=3) (v:=?_) rfl (Or.inl ⟨by rfl,?_⟩) ?_
        rotate_left
        · (intro w _;go_simp;try with_reducible rfl)
        simp only [Act.put];refine rd2E 1 4 rfl rfl (fun K hK=>?_) (fun K hK=>?_)
        focus
          go_simp
          refine hK.out _ _ trivial (fun _=>?_);clear hK K
          try simp only [Act.put,stT,stZ,stS]
          refine rd1E 4 rfl (fun K hK=>?_)
          go_simp
          go_at_call 121
          refine (CV _ (Below.drew (Below.refl _ _))).out.mono ?_;rintro e w3 ⟨nm,vk,vn,vs,A3,n3,k3,A4,n4,k4,rfl,⟨xt,hts,hxe⟩,r3,m3⟩;have HM3:=Hd ((Z0.of_below (r:=r) (Below.drew (Below.refl _ _))).trans m3);have HTS:=Hd hts;have HXE:=Hd hxe;have K3:=Hd (KX.out.next r3 HM3.out);clear hts hxe r3 m3;obtain ⟨j0,j1,j2,j3,j4,jz⟩:=gvc K3.out.loc;have y3:=jz 4;have jA:=fun o=>(World.cell?_of_block (a:=⟨b8,4,none⟩) (Below.heap_alloc w3 o _ K3.out.blt)).trans j4;clear jz m0 m1 m2 m3 m4 z3;go_wp2_with fail
          refine hK.out _ _ trivial (fun _=>?_);clear hK K
          try simp only [Act.put,stT,stZ,stS]
          refine rdE (rs:=[5]) ?_
        rotate_left
        focus
          go_simp
          go_at_call 121
          refine (CV _ (Below.drew (Below.refl _ _))).out.mono ?_;rintro e w3 ⟨nm,vk,vn,vs,A3,n3,k3,A4,n4,k4,rfl,⟨xt,hts,hxe⟩,r3,m3⟩;have HM3:=Hd ((Z0.of_below (r:=r) (Below.drew (Below.refl _ _))).trans m3);have HTS:=Hd hts;have HXE:=Hd hxe;have K3:=Hd (KX.out.next r3 HM3.out);clear hts hxe r3 m3;obtain ⟨j0,j1,j2,j3,j4,jz⟩:=gvc K3.out.loc;have y3:=jz 4;have jA:=fun o=>(World.cell?_of_block (a:=⟨b8,4,none⟩) (Below.heap_alloc w3 o _ K3.out.blt)).trans j4;clear jz m0 m1 m2 m3 m4 z3;go_wp2_with fail
          refine hK.out _ _ trivial (fun _=>?_);clear hK K
          try simp only [Act.put,stT,stZ,stS]
          refine rd2E 1 5 rfl rfl (fun K hK=>?_) (fun K hK=>?_)
          focus
           go_simp
           refine hK.out _ _ trivial (fun _=>?_);clear hK K
           try simp only [Act.put,stT,stZ,stS]
           refine rdE (rs:=[5]) ?_
          rotate_left
          focus
           go_simp
           refine hK.out _ _ trivial (fun _=>?_);clear hK K
           try simp only [Act.put,stT,stZ,stS]
           refine rdE (rs:=[1]) ?_
        all_goals
          refine AllReadyH.cons rfl (fun K hK=>?_) AllReadyH.nil
          go_simp
          refine hK.out _ _ trivial (fun _=>?_);clear hK K
          try simp only [Act.put,stT,stZ,stS]
          refine rd1E 6 rfl (fun K hK=>?_);refine step_append_lies _ (by rfl) _ _ 92 (by rfl) (b8+1) 151 i0 (.agg #[.string ⟨#[]⟩,.int .i64 0,.int .i64 0,.string ⟨#[]⟩,.slice none 0 0,.slice none 0 0]) 6 96 Tryz.underlying92 hi hz0 hz1 hz2 (by rfl) (by decide) _ T.len xs (by rfl) (Yw (Yk HRT.out.1 HM3.out (by have:=KX.out.rb;omega)) ((Below.refl _ _).alloc (Nat.le_refl _) _)) _ 1 1 [.string nm,.int .i64 vk,.int .i64 vn,.string vs,.slice A3 n3 k3,.slice A4 n4 k4] (by rfl) (by rfl) (Fh _ _ _ (by first|rfl|(simp;done))) (by intro y hy;simp at hy;rcases hy with rfl|rfl|rfl|rfl|rfl|rfl<;>rfl) (by decide) (by unfold maxLen;omega) (by omega) (by have h1:=K3.out.blt;simp;omega) _ rfl ?_;intro gg cap2 w4 hown4 hgrow hat hlt4;have HG4:=Hd hgrow;have HO4:=Hd hown4;have HT4:=Hd hat;have K4:=Hd (K3.out.grown hgrow HVB.out);obtain ⟨x0,x1,x2,x3,x4,xz⟩:=gvc K4.out.loc;have u3:=xz 4;clear hgrow hown4 hat xz j0 j1 j2 j3 j4 y3 jA;refine hK.out _ _ trivial (fun _=>?_);clear hK K;simp only [Act.put,List.setIfInBounds_toArray];refine rd1E 7 rfl (fun K hK=>?_)
          go_simp
          refine hK.out _ _ trivial (fun _=>?_);clear hK K
          try simp only [Act.put,stT,stZ,stS]
          refine rd1E 8 rfl (fun K hK=>?_)
          go_simp
          refine hK.out _ _ trivial (fun _=>?_);clear hK K
          try simp only [Act.put,stT,stZ,stS]
          refine wpAnyH_done (by kernel_rfl) ?_ _;go_wp2_with fail
          have T4:=RTr.app (by have:=KX.out.rb;omega) (Nat.succ_le_of_lt KX.out.blt) HRT.out.1 HRT.out.2.1 HRT.out.2.2 HM3.out HTS.out HO4.out HG4.out HT4.out;have hrun:=HNX.out
          go_roundg g
          case measure=>omega
          case rel =>
           rcases hR1:Zb (Co fx (d+1)) (.ok ts) with y|a
           · rw [hR1] at hrun
             have K5:=K4.out.put 4 (.slice (some ⟨gg,0,none⟩) (T.len+1) cap2);rw [hR1] at K5;exact ⟨.error y,l,T.snoc xt,_,(fun us e=>by cases e),by rw [TrL.snoc_len];omega,Za ⟨K5,T4.moved Z0.set (Nat.lt_succ_self _),hrun,fun us e=>by cases e⟩⟩
           · rw [hR1] at hrun
             have K5:=K4.out.put 4 (.slice (some ⟨gg,0,none⟩) (T.len+1) cap2);rw [hR1] at K5;have hsf:=B8 hR1;refine ⟨.ok a.2,l.snoc a.1.1 a.1.2,T.snoc xt,_,(fun us e=>?_),by rw [TrL.snoc_len];omega,Za ⟨K5,T4.moved Z0.set (Nat.lt_succ_self _),hrun,fun us e=>?_⟩⟩
             · have e:=Except.ok.inj e
               subst e;have:=hsf.2;rw [TrL.snoc_len];exact ⟨by omega,by omega⟩
             · have e:=Except.ok.inj e
               subst e;have hf:=HF.out.1;refine ⟨?_,Jr hsf.1 HF.out.2.1,Nat.le_trans (Nat.le_of_lt hsf.2) HF.out.2.2.1,HF.out.2.2.2⟩;rw [hf,HXE.out a.1 a.2 (by rw [hR1])];exact (Fg l a.1.1 a.1.2).symm
variable {nT:Nat}
theorem Ymj {s t:ByteArray} {ts:List Tok} (h:atB 1 s ts=true) (hne:(s.data.toList == t.data.toList)=false):atB 1 t ts=false:=by
 rcases ts with _|⟨u,us⟩
 · cases h
 · have e:(u.1 == 1 && (u.2.toList == s.toList))=true:=h
   rw [Bool.and_eq_true] at e;have e2:u.2.toList=s.toList:=by simpa using e.2
   show (u.1 == 1 && (u.2.toList == t.toList))=false;rw [e2,e.1,Lib.toList_data,Lib.toList_data,hne];rfl
theorem Ri {s t:ByteArray} {S:StP} (h:isS 1 s S=true) (hne:(s.data.toList == t.data.toList)=false):isS 1 t S=false:=by
 rcases S with y|ts
 · cases h
 · exact Ymj h hne
theorem Yij (d:Nat) {S:StP} (h:isS 1 J5 S=true):Zb (Im false d) S=F1 (fun _=>.mk 8 0 (nmV (tkS J5 S)) .nil .nil) (Zb Nd (nmS (tkS J5 S))):=by
 have h0:=Ri (t:=oB) h (by decide);have h1:=Ri (t:=omB) h (by decide);obtain ⟨t,ts,rfl,h2⟩:=Xr h;have a0:atB 1 oB (t :: ts)=false:=h0;have a1:atB 1 omB (t :: ts)=false:=h1;have a2:atB 1 J5 (t :: ts)=true:=h;rw [h2]
 show Im false d (t :: ts)=_;rw [Wn];simp only [ifR,Ypf,a0,a1,a2,Bool.false_eq_true,if_false,if_true,List.tail_cons,nmR,nmS,nmV]
 cases Zg ts<;>rfl
theorem Yi7 (fx:Bool) (d:Nat) {S:StP} (h0:isS 1 oB S=false) (h1:isS 1 omB S=false) (h2:(isS 1 J5 S && !fx)=false) (h3:∀ t ts,S=.ok (t :: ts)→Zv t=none):(∀ a ts,Zb (Im fx d) S ≠ .ok (a,ts))∧Xb (Zb (Im fx d) S)=Mp 2 S:=by
 rcases S with y|ts
 · exact ⟨fun a ts h=>(by cases h),rfl⟩
 · have a0:atB 1 oB ts=false:=h0
   have a1:atB 1 omB ts=false:=h1;have a2:(atB 1 J5 ts && !fx)=false:=h2
   have h1:Zzj ts=.error 2:=by
     rcases ts with _|⟨t,us⟩
     · rfl
     · exact Zjx (h3 t us rfl)
   have e:Im fx d ts=.error 2:=by
     rw [Wn];simp only [ifR,a0,a1,Bool.false_eq_true,if_false]
     cases fx with
     | true=>rw [if_pos rfl];exact h1
     | false =>
       have a3:atB 1 J5 ts=false:=by simpa using a2
       rw [if_neg (by simp)];simp only [Ypf,ifR,a3,Bool.false_eq_true,if_false];exact h1
   refine ⟨fun a us h=>?_,?_⟩
   · have h:Im fx d ts=.ok (a,us):=h
     rw [e] at h;cases h
   · show Xb (Im fx d ts)=_
     rw [e];rfl
theorem Zkf {w:World} {P:Nat→Prop} {k n:Int} {s:ByteArray} (hs:s.size≤9000):TS w P (M9 (.mk k n s .nil .nil)) [.int .i64 k,.int .i64 n,.string s,.slice none 0 0,.slice none 0 0]:=
 TS.int (TS.int (TS.str hs (TS.row (TP.none _ _) (TS.row (TP.none _ _) (TS.nil _ _)))))
theorem Lr {fx:Bool} {d r:Nat} {t:Tok} {ts:List Tok} {k n:Int} {s:ByteArray} {w w':World} {e:Ending} (h1:t.1 ≠ 1) (h:Zv t=some (k,n,s)) (hs:s.size≤9000) (hf:Wb nT r d ts k n s w e w'):Yad nT fx d r (.ok (t :: ts)) w e w':=by
 obtain ⟨rfl,h2,h3⟩:=hf;have hr:Zb (Im fx d) (.ok (t :: ts))=.ok (.mk k n s .nil .nil,ts):=Yet fx d ts h1 h;refine ⟨_,_,_,_,_,_,_,_,_,rfl,⟨_,Zkf hs,fun a us e=>?_⟩,by rw [hr];exact h2,h3⟩;rw [hr] at e;have e:=(Prod.mk.inj (Except.ok.inj e)).1;rw [← e]
theorem Yov (d r:Nat) (tx:ByteArray) (us:List Tok) (w:World) (hG:Zs us) (hb:isS 1 J5 (.ok ((1,tx) :: us))=true) (h:RP nT w r d (.ok ((1,tx) :: us))):Calls Tryz.prog 98 #[.pointer (some ⟨r,0,none⟩),.bool false] w (Yad nT false d r (.ok ((1,tx) :: us)) w):=by
 have HR:=Hd (Yij d hb)
 have hns:(nmV (tkS J5 (.ok ((1,tx) :: us)))).size≤9000:=by
   obtain ⟨t9,ts9,e9,e8⟩:=Xr hb;rw [e8];have e9:=Except.ok.inj e9;injection e9 with _ e9
   subst e9;simp only [nmV]
   cases hn:Zg us with
   | none=>exact Nat.zero_le _
   | some a=>exact (hG.name (s:=a.1) (r:=a.2) hn).1
 have HNS:=Hd hns;have K0:=Hd (Q0.start h #[.int .i64 0,.int .i64 0,.string ⟨#[]⟩,.slice none 0 0,.slice none 0 0] 94);have HP:Hid (Calls Tryz.prog 12 #[.pointer (some ⟨r,0,none⟩)] (w.alloc (.cells #[.int .i64 0,.int .i64 0,.string ⟨#[]⟩,.slice none 0 0,.slice none 0 0] 94)) fun e w'=>e=.returned (.agg #[.int .i64 1,.string tx])∧Below (w.alloc (.cells #[.int .i64 0,.int .i64 0,.string ⟨#[]⟩,.slice none 0 0,.slice none 0 0] 94)).heap.size (w.alloc (.cells #[.int .i64 0,.int .i64 0,.string ⟨#[]⟩,.slice none 0 0,.slice none 0 0] 94)) w'):=Hd (Lz r d _ _ K0.out.rd);have HB:=Hd hb;clear h hG hns hb
 go_enter Tryz.func98,Tryz.ntmps98
 go_wp2_with fail
 refine HP.out.mono ?_;rintro e w1 ⟨rfl,hb1⟩;have K1:=Hd (K0.out.next (K0.out.rd.below hb1) (Z0.of_below hb1));have K2:=Hd (K1.out.next (K1.out.rd.below (blw w1 (.cells #[.int .i64 1,.string tx] 45))) (Z0.of_below (blw w1 (.cells #[.int .i64 1,.string tx] 45))));have I2:=Hd (ris r d _ J5 _ K2.out.rd);rw [HB.out] at I2;clear hb1;go_wp2_with fail
 refine I2.out.mono ?_;rintro e w3 ⟨rfl,hb3⟩;have K3:=Hd (K2.out.next (K2.out.rd.below hb3) (Z0.of_below hb3));have T3:=Hd (J1 r d _ J5 _ K3.out.rd);clear hb3 I2;go_wp2_with fail
 refine T3.out.mono ?_;rintro e w4 ⟨rfl,h4,m4⟩;have K4:=Hd (K3.out.next h4 m4);have N4:=Hd (Uu r d _ _ K4.out.rd);clear h4 m4 T3;go_wp2_with fail
 refine N4.out.mono ?_;rintro e w5 ⟨rfl,h5,m5⟩;have K5:=Hd (K4.out.next h5 m5);obtain ⟨q0,q1,q2,q3,q4,qz⟩:=gvc K5.out.res;have qf0:=qz 0;have qf1:=qz 1;have qf2:=qz 2;have qf3:=qz 3;have qf4:=qz 4;clear h5 m5 N4 qz;go_wp2_with fail
 have F:=K5.out.fin (ys:=vaZ) [.int .i64 8,.int .i64 0,.string (nmV (tkS J5 (.ok ((1,tx) :: us)))),.slice none 0 0,.slice none 0 0] rfl;refine Y6 (cs:=[.int .i64 8,.int .i64 0,.string (nmV (tkS J5 (.ok ((1,tx) :: us)))),.slice none 0 0,.slice none 0 0]) rfl rfl rfl F.1 Tryz.underlying94 ⟨_,rfl⟩ (by kernel_rfl) ?_;refine ⟨_,_,_,_,_,_,_,_,_,rfl,⟨_,Zkf HNS.out,fun a ts e=>?_⟩,?_,F.2.2⟩
 · rw [HR.out] at e
   obtain ⟨_,rfl⟩:=Vv e
   rfl
 · rw [HR.out,Y4,Yf]
   exact F.2.1
theorem Ycf (fx:Bool) (d r:Nat) (S:StP) (w:World) (e2:((X3 S).1 == 2)=false) (e3:((X3 S).1 == 3)=false) (e4:((X3 S).1 == 4)=false) (e5:((X3 S).1 == 5)=false) (h0:isS 1 oB S=false) (h1:isS 1 omB S=false) (h2:(isS 1 J5 S && !fx)=false) (h:RP nT w r d S):Calls Tryz.prog 98 #[.pointer (some ⟨r,0,none⟩),.bool fx] w (Yad nT fx d r S w):=by
 have HR:=Hd (Yi7 fx d h0 h1 h2 (fun t ts e=>by
  subst e;have e2:(t.1 == 2)=false:=e2;have e3:(t.1 == 3)=false:=e3;have e4:(t.1 == 4)=false:=e4;have e5:(t.1 == 5)=false:=e5;unfold Zv;rw [if_neg (by simpa using e2),if_neg (by simpa using e3),if_neg (by simpa using e4),if_neg (by simpa using e5)]))
 have K0:=Hd (Q0.start h #[.int .i64 0,.int .i64 0,.string ⟨#[]⟩,.slice none 0 0,.slice none 0 0] 94);have HP:=Hd (Lz r d S _ K0.out.rd);have HB:=Hd (And.intro h0 h1);obtain ⟨q,hq⟩:∃ q,X3 S=q:=⟨_,rfl⟩;rw [hq] at HP e2 e3 e4 e5;obtain ⟨tk,tx⟩:=q
 dsimp only at HP e2 e3 e4 e5
 obtain ⟨bd,hbd⟩:∃ b,isS 1 J5 S=b:=⟨_,rfl⟩;rw [hbd] at h2;have HBD:=Hd hbd;clear h hq h0 h1 hbd
 go_enter Tryz.func98,Tryz.ntmps98
 go_wp2_with fail
 refine HP.out.mono ?_;rintro e w1 ⟨rfl,hb1⟩;have K1:=Hd (K0.out.next (K0.out.rd.below hb1) (Z0.of_below hb1));have K2:=Hd (K1.out.next (K1.out.rd.below (blw w1 (.cells #[.int .i64 tk,.string tx] 45))) (Z0.of_below (blw w1 (.cells #[.int .i64 tk,.string tx] 45))));have I2:=Hd (ris r d _ J5 _ K2.out.rd);rw [HBD.out] at I2;clear hb1;go_wp2_with fail
 refine I2.out.mono ?_;rintro e w3 ⟨rfl,hb3⟩;have K3:=Hd (K2.out.next (K2.out.rd.below hb3) (Z0.of_below hb3));have I3:=Hd (ris r d _ oB _ K3.out.rd);rw [HB.out.1] at I3;have hcase:bd=false∨(bd=true∧fx=true):=by cases bd<;>cases fx<;>simp_all
 clear hb3 I2 h2;rcases hcase with rfl|⟨rfl,rfl⟩
 all_goals
  go_wp2_with fail
  refine I3.out.mono ?_;rintro e w4 ⟨rfl,hb4⟩;have K4:=Hd (K3.out.next (K3.out.rd.below hb4) (Z0.of_below hb4));have I4:=Hd (ris r d _ omB _ K4.out.rd);rw [HB.out.2] at I4;clear hb4;go_wp2_with fail
  refine I4.out.mono ?_;rintro e w5 ⟨rfl,hb5⟩;have K5:=Hd (K4.out.next (K4.out.rd.below hb5) (Z0.of_below hb5));have F5:=Hd (N3 r d _ 2 (by decide) _ K5.out.rd);clear hb5;go_wp2_with fail
  refine F5.out.mono ?_;rintro e w6 ⟨rfl,h6,m6⟩;have K6:=Hd (K5.out.next h6 m6);obtain ⟨q0,q1,q2,q3,q4,qz⟩:=gvc K6.out.res;have qf0:=qz 0;have qf1:=qz 1;have qf2:=qz 2;have qf3:=qz 3;have qf4:=qz 4;clear h6 m6 qz;go_wp2_with fail
  have F:=K6.out.fin (ys:=vaZ) [.int .i64 0,.int .i64 0,.string ⟨#[]⟩,.slice none 0 0,.slice none 0 0] rfl;refine Y6 (cs:=[.int .i64 0,.int .i64 0,.string ⟨#[]⟩,.slice none 0 0,.slice none 0 0]) rfl rfl rfl F.1 Tryz.underlying94 ⟨_,rfl⟩ (by kernel_rfl) ?_;refine ⟨_,_,_,_,_,_,_,_,_,rfl,⟨_,Zkf (Nat.zero_le _),fun a ts e=>absurd e (HR.out.1 a ts)⟩,?_,F.2.2⟩;rw [HR.out.2];exact F.2.1
theorem Ynw {s:ByteArray} {l:List UInt8} : (s.data.toList=l) ↔ (s.toList == l)=true:=by
 rw [Lib.toList_data];simp
theorem Ycl (N : Nat) (IHV:Ynv nT N) (IHM:Yq8 nT N):Ynv nT (N+1):=by
 intro fx d S r w hG hL hd h
 by_cases hk:(X3 S).1=0∨(X3 S).1=1∨((X3 S).1 ≠ 2∧(X3 S).1 ≠ 3∧(X3 S).1 ≠ 4∧(X3 S).1 ≠ 5)
 · have e2 : ((X3 S).1 == 2)=false:=by simp;omega
   have e3:((X3 S).1 == 3)=false:=by simp;omega
   have e4:((X3 S).1 == 4)=false:=by simp;omega
   have e5:((X3 S).1 == 5)=false:=by simp;omega
   cases h0:isS 1 oB S with
   | true =>
     have hdl:=Ri (t:=J5) h0 (by decide);obtain ⟨t,ts,rfl,_⟩:=Xr h0;obtain ⟨tk,tx⟩:=t
     have:tk=1:=by
       have e:(tk == 1 && (tx.toList == oB.toList))=true:=h0;rw [Bool.and_eq_true] at e
       simpa using e.1
     subst this;exact Yni N IHV fx d r tx ts w (hG _ rfl) (by have:=hL _ rfl;simpa using this) hd hdl h0 h
   | false =>
     cases h1:isS 1 omB S with
     | true =>
       have hdl:=Ri (t:=J5) h1 (by decide);obtain ⟨t,ts,rfl,_⟩:=Xr h1;obtain ⟨tk,tx⟩:=t
       have:tk=1:=by
         have e:(tk == 1 && (tx.toList == omB.toList))=true:=h1;rw [Bool.and_eq_true] at e
         simpa using e.1
       subst this;exact Ypd N IHM fx d r tx ts w (hG _ rfl) (by have:=hL _ rfl;simpa using this) hd hdl h0 h1 h
     | false =>
       cases h2:(isS 1 J5 S && !fx) with
       | false=>exact Ycf fx d r S w e2 e3 e4 e5 h0 h1 h2 h
       | true =>
         rw [Bool.and_eq_true] at h2;obtain ⟨h2,hf⟩:=h2;have:fx=false:=by simpa using hf
         subst this;obtain ⟨t,ts,rfl,_⟩:=Xr h2;obtain ⟨tk,tx⟩:=t
         have:tk=1:=by
           have e:(tk == 1 && (tx.toList == J5.toList))=true:=h2;rw [Bool.and_eq_true] at e
           simpa using e.1
         subst this;exact Yov d r tx ts w (fun t ht=>hG _ rfl t (List.mem_cons_of_mem _ ht)) h2 h
 · rcases S with y|ts
   · exact absurd (.inl rfl) hk
   · rcases ts with _|⟨t,ts⟩
     · exact absurd (.inl rfl) hk
     · obtain ⟨tk,tx⟩:=t
       obtain ⟨hsz,hk3⟩:=hG _ rfl (tk,tx) (List.mem_cons_self ..)
       have hk':tk=2∨tk=3∨tk=4∨tk=5:=by
         have hk : ¬ (tk=0∨tk=1∨(tk ≠ 2∧tk ≠ 3∧tk ≠ 4∧tk ≠ 5)):=hk;omega
       rcases hk' with rfl|rfl|rfl|rfl
       · cases b1:(tx.toList == [110,117,108,108]) with
         | true =>
           exact (Ymy fx d r tx ts w b1 h).mono fun e w' hf=>Lr (by dsimp only;decide) (by unfold Zv Oa Rg;rw [if_pos rfl,if_pos (Ynw.2 b1)]) (Nat.zero_le _) hf
         | false =>
           have n1 : ¬ (tx.data.toList=[110,117,108,108]):=fun e=>by rw [Ynw.1 e] at b1;cases b1
           cases b2:(tx.toList == [116,114,117,101]) with
           | true =>
             exact (Ykr fx d r tx ts w b1 b2 h).mono fun e w' hf=>Lr (by dsimp only;decide) (by unfold Zv Oa Rg St;rw [if_pos rfl,if_neg n1,if_pos (Ynw.2 b2)]) (Nat.zero_le _) hf
           | false =>
             have n2 : ¬ (tx.data.toList=[116,114,117,101]):=fun e=>by rw [Ynw.1 e] at b2;cases b2
             cases b3:(tx.toList == [102,97,108,115,101]) with
             | true =>
               exact (Yhd fx d r tx ts w b1 b2 b3 h).mono fun e w' hf=>Lr (by dsimp only;decide) (by unfold Zv Oa Rg St Md;rw [if_pos rfl,if_neg n1,if_neg n2,if_pos (Ynw.2 b3)]) (Nat.zero_le _) hf
             | false =>
               have n3 : ¬ (tx.data.toList=[102,97,108,115,101]):=fun e=>by rw [Ynw.1 e] at b3;cases b3
               exact (Yl4 fx d r tx ts w b1 b2 b3 h).mono fun e w' hf=>Lr (by dsimp only;decide) (by unfold Zv Oa Rg St Md;rw [if_pos rfl,if_neg n1,if_neg n2,if_neg n3]) hsz hf
       · have hk9:=hk3 rfl
         cases hf:Xt (Aj tx.data.toList) with
         | true =>
           exact (Yo4 fx d r tx ts w hsz hk9 hf h).mono fun e w' hq=>Lr (by dsimp only;decide) (by unfold Zv;rw [if_neg (by dsimp only;decide),if_pos rfl,if_pos hf]) (Nat.zero_le _) hq
         | false =>
           exact (Yon fx d r tx ts w hsz hk9 hf h).mono fun e w' hq=>Lr (by dsimp only;decide) (by unfold Zv;rw [if_neg (by dsimp only;decide),if_pos rfl,if_neg (by rw [hf];simp)]) hsz hq
       · exact (Yjn fx d r tx ts w h).mono fun e w' hq=>Lr (by dsimp only;decide) (by unfold Zv;rw [if_neg (by dsimp only;decide),if_neg (by dsimp only;decide),if_pos rfl]) hsz hq
       · exact (Yir fx d r tx ts w h).mono fun e w' hq=>Lr (by dsimp only;decide) (by unfold Zv;rw [if_neg (by dsimp only;decide),if_neg (by dsimp only;decide),if_neg (by dsimp only;decide),if_pos rfl]) hsz hq
abbrev meZ:List Value:=[.string ⟨#[]⟩,.int .i64 0,.int .i64 0,.string ⟨#[]⟩,.slice none 0 0,.slice none 0 0]
theorem Yep {w:World} {b:Nat} {z0 z1 z2 z3 z4 z5:Value} {t:TypeId} (h:w.heap[b]? = some (.cells #[z0,z1,z2,z3,z4,z5] t (0,0))):w.cell? ⟨b,0,none⟩=some z0∧w.cell? ⟨b,1,none⟩=some z1∧w.cell? ⟨b,2,none⟩=some z2∧w.cell? ⟨b,3,none⟩=some z3∧w.cell? ⟨b,4,none⟩=some z4∧w.cell? ⟨b,5,none⟩=some z5∧∀ i,w.frozen? ⟨b,i,none⟩=false:=by
 refine ⟨?_,?_,?_,?_,?_,?_,?_⟩<;>simp [World.cell?,World.frozen?,h]
theorem L7 {S:StP} {ts:List Tok} (h:nmS S=.ok ts):∃ us,S=.ok us∧ts <:+ us∧ts.length < us.length:=by
 rcases S with y|us
 · cases h
 · simp only [nmS] at h
   cases hn:Zg us with
   | none=>rw [hn] at h;cases h
   | some a =>
     rw [hn] at h;have h:=Except.ok.inj h;subst h;have:=Zt (s:=a.1) (r:=a.2) hn;exact ⟨us,rfl,this.1,this.2⟩
theorem Cs {s:ByteArray} {S:StP} {ts:List Tok} (h:tkS s S=.ok ts):∃ us,S=.ok us∧ts <:+ us∧ts.length < us.length:=by
 rcases S with y|us
 · cases h
 · simp only [tkS] at h
   split at h
   · rename_i hb
     have h:=Except.ok.inj h;subst h;have:=Zn hb;exact ⟨us,rfl,this.1,this.2⟩
   · cases h
theorem Vh {S:StP} (hG:∀ ts,S=.ok ts→Zs ts):(nmV S).size≤9000:=by
 rcases S with y|ts
 · exact Nat.zero_le _
 · simp only [nmV]
   cases hn:Zg ts with
   | none=>exact Nat.zero_le _
   | some a=>exact ((hG ts rfl).name (s:=a.1) (r:=a.2) hn).1
theorem Ti (N:Nat) (IH:Ynv nT N):Yq8 nT (N+1):=by
 intro fx d S r w hG hL hd h;have HR:=Hd (Yn4 fx d S);have HNS:=Hd (Vh hG)
 have HV:=fun wx (hr:RP nT wx r d (tkS Xj (nmS S)))=>Hd (IH fx d (tkS Xj (nmS S)) r wx (fun ts e=>by
   obtain ⟨us,e1,s1,_⟩:=Cs e;obtain ⟨vs,e2,s2,_⟩:=L7 e1;exact Jr (s1.trans s2) (hG vs e2)) (fun ts e=>by
   obtain ⟨us,e1,s1,l1⟩:=Cs e;obtain ⟨vs,e2,s2,l2⟩:=L7 e1;have:=hL vs e2;omega) hd hr)
 have K0:=Hd (Q0.start h #[.string ⟨#[]⟩,.int .i64 0,.int .i64 0,.string ⟨#[]⟩,.slice none 0 0,.slice none 0 0] 151);have HN:=Hd (Uu r d S _ K0.out.rd);clear h hG hL hd IH
 go_enter Tryz.func121,Tryz.ntmps121
 go_wp2_with fail
 refine HN.out.mono ?_;rintro e w1 ⟨rfl,h1,m1⟩;have K1:=Hd (K0.out.next h1 m1);have K2:=Hd (Q1.make K1.out #[.string (nmV S),.int .i64 0,.int .i64 0,.string ⟨#[]⟩,.slice none 0 0,.slice none 0 0] 151);have HT:=Hd (J1 r d _ Xj _ K2.out.rd);clear h1 m1 HN;go_wp2_with fail
 refine HT.out.mono ?_;rintro e w3 ⟨rfl,h3,m3⟩;have K3:=Hd (K2.out.next h3 m3);have HY:=HV _ K3.out.rd;clear h3 m3 HT HV;go_wp2_with fail
 refine HY.out.mono ?_;rintro e w4 ⟨vk,vn,vs,A3,n3,k3,A4,n4,k4,rfl,⟨x,hts,hx⟩,h4,m4⟩;have K4:=Hd (K3.out.next h4 m4);have O4:=Hd (OvS.of hts K3.out.blt);have HX:=Hd hx;obtain ⟨y0,y1,y2,y3,y4,y5,yz⟩:=Yep K4.out.loc;have yf1:=yz 1;have yf2:=yz 2;have yf3:=yz 3;have yf4:=yz 4;have yf5:=yz 5;have K5:=Hd (((((K4.out.put 1 (.int .i64 vk)).put 2 (.int .i64 vn)).put 3 (.string vs)).put 4 (.slice A3 n3 k3)).put 5 (.slice A4 n4 k4));have O5:=Hd (((((O4.out.put (Nat.le_refl _) (i:=1) (v:=.int .i64 vk)).put (Nat.le_refl _) (i:=2) (v:=.int .i64 vn)).put (Nat.le_refl _) (i:=3) (v:=.string vs)).put (Nat.le_refl _) (i:=4) (v:=.slice A3 n3 k3)).put (Nat.le_refl _) (i:=5) (v:=.slice A4 n4 k4));obtain ⟨x0,x1,x2,x3,x4,x5,xz⟩:=Yep K5.out.loc;obtain ⟨q0,q1,q2,q3,q4,q5,qz⟩:=Yep K5.out.res;have qf0:=qz 0;have qf1:=qz 1;have qf2:=qz 2;have qf3:=qz 3;have qf4:=qz 4;have qf5:=qz 5;clear hts hx h4 m4 yz xz qz HY;go_wp2_with fail
 have F:=K5.out.fin (ys:=meZ) [.string (nmV S),.int .i64 vk,.int .i64 vn,.string vs,.slice A3 n3 k3,.slice A4 n4 k4] rfl;have O6:=O5.out.fin (w:=w) (Nat.le_of_lt K5.out.bl) [.string (nmV S),.int .i64 vk,.int .i64 vn,.string vs,.slice A3 n3 k3,.slice A4 n4 k4];refine Y6 (cs:=[.string (nmV S),.int .i64 vk,.int .i64 vn,.string vs,.slice A3 n3 k3,.slice A4 n4 k4]) rfl rfl rfl F.1 Tryz.underlying151 ⟨_,rfl⟩ (by kernel_rfl) ?_;refine ⟨_,_,_,_,_,_,_,_,_,_,rfl,⟨.cons (.one (.string (nmV S))) x,TS.str HNS.out O6,fun a ts e=>?_⟩,?_,F.2.2⟩
 · rw [HR.out] at e
   obtain ⟨v,e2,rfl⟩:=Vg e;rw [HX.out v ts e2]
   rfl
 · rw [HR.out,Y4]
   exact F.2.1
theorem Yp1:∀ N,Ynv nT N∧Yq8 nT N:=by
 intro N
 induction N with
 | zero =>
   have h0:Ynv nT 0:=fun fx d S r w hG hL hd h=>by
    have hp:X3 S=(0,⟨#[]⟩):=by
     rcases S with y|ts
     · rfl
     · have:=hL ts rfl
       have:ts=[]:=List.eq_nil_of_length_eq_zero (by omega);subst this;rfl
    have hi:∀ s,isS 1 s S=false:=fun s=>by rw [Zjn 1 s S (by decide),hp];rfl
    exact Ycf fx d r S w (by rw [hp];rfl) (by rw [hp];rfl) (by rw [hp];rfl) (by rw [hp];rfl) (hi _) (hi _) (by rw [hi];rfl) h
   exact ⟨h0,fun fx d S r w hG hL hd h=>Ti 0 h0 fx d S r w hG (fun ts e=>Nat.le_trans (hL ts e) (Nat.zero_le _)) hd h⟩
 | succ k ih=>exact ⟨Ycl k ih.1 ih.2,Ti k ih.1⟩
end Go.Proofs.YtkmloefbkgcbkaaGreatDoor
