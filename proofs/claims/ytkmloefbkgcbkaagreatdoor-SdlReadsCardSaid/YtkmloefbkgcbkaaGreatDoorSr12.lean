/- The walk of the landed reader's list. -/
import Derived.Test.YtkmloefbkgcbkaaGreatDoorSr11
set_option maxRecDepth 100000
set_option maxHeartbeats 8000000
namespace Go.Proofs.YtkmloefbkgcbkaaGreatDoor
open Go.RowKit
theorem RT.moved {base r q:Nat} {W W':World} {V:Value} {l:VL} (h:RT base W V q l) (m:Z0 r W W') (hr:r < base):RT base W' V q l:=by
 obtain ⟨xs,P,h1,h2,h3⟩:=h;refine ⟨xs,P,World.ownsRow.kept h1 m ?_,h2.keep (fun b hb=>⟨hb,m.block b (h3 b hb).2.1 (fun e=>by have:=(h3 b hb).1;injection e;omega)⟩),fun b hb=>⟨(h3 b hb).1,Nat.lt_of_lt_of_le (h3 b hb).2.1 m.size,(h3 b hb).2.2⟩⟩
 cases e:V.ownBlock with
 | none=>exact .inl rfl
 | some k=>exact .inr (fun e'=>by have:=(h1.lt k e).1;injection e';omega)
abbrev Le:Obj:=.cells #[.int .i64 0,.int .i64 0,.string ⟨#[]⟩,.slice none 0 0,.slice none 0 0] 94
abbrev Ybv (V:Value):Obj:=.cells #[.int .i64 6,.int .i64 0,.string ⟨#[]⟩,V,.slice none 0 0] 94
def LK (w:World) (r:Nat) (W:World) (V:Value) (acc:VL):Prop:=W.heap[w.heap.size]? = some Le∧W.heap[w.heap.size+1]? = some (Ybv V)∧RT (w.heap.size+2) W V acc.len acc∧Z0 r w W∧r < w.heap.size∧w.heap.size+2≤W.heap.size
theorem LK.next {w:World} {r:Nat} {W W':World} {V:Value} {acc:VL} (h:LK w r W V acc) (m:Z0 r W W'):LK w r W' V acc:=by
 obtain ⟨h1,h2,h3,h4,h5,h6⟩:=h;exact ⟨m.keep h1 (by omega),m.keep h2 (by omega),h3.moved m (by omega),h4.trans m,h5,Nat.le_trans h6 m.size⟩
theorem LK.start (w:World) (r:Nat) (hr:r < w.heap.size):LK w r ((w.alloc Le).alloc (Ybv (.slice none 0 0))) (.slice none 0 0) .nil:=by
 refine ⟨(Below.heap_alloc _ _ _ (by simp)).trans (heap_alloc_new _ _),heap_alloc2_new _ _ _,RT.start _ _,(Z0.of_below ((Below.refl _ _).alloc (Nat.le_refl _) _)).trans (Z0.of_below ((Below.refl _ _).alloc (Nat.le_refl _) _)),hr,by simp⟩
theorem Zvl {g:Nat} {fx:Bool} {d:Nat} {acc:VL} {ts:List Tok} (h:atB 1 cB ts=true):Xd (g+1) fx d acc ts=.ok (acc,ts.tail):=by rw [Xd,if_pos h]
theorem Zyy {g:Nat} {fx:Bool} {d:Nat} {acc:VL} {ts:List Tok} {e:Int} (h:atB 1 cB ts=false) (hv:F3 g fx d ts=.error e):Xd (g+1) fx d acc ts=.error e:=by rw [Xd,if_neg (by rw [h];simp),hv]
theorem Zjd {g:Nat} {fx:Bool} {d:Nat} {acc:VL} {ts r:List Tok} {v:VT} (h:atB 1 cB ts=false) (hv:F3 g fx d ts=.ok (v,r)):Xd (g+1) fx d acc ts=Xd g fx d (acc.snoc v) r:=by rw [Xd,if_neg (by rw [h];simp),hv]
theorem Yhx {w w3 w4:World} {r:Nat} {V:Value} {acc:VL} {o:Obj} (h:LK w r w3 V acc) (hg:(w3.alloc o).grownBy w4 V.ownBlock):w4.heap[w.heap.size]? = some Le∧w4.heap[w.heap.size+1]? = some (Ybv V)∧Z0 r w w4:=by
 have hlt:=h.2.2.2.2.2;have hr:=h.2.2.2.2.1
 have hown:∀ k,V.ownBlock=some k→w.heap.size+2≤k:=by
   obtain ⟨xs,P,h1,_,_⟩:=h.2.2.1;exact fun k hk=>(h1.lt k hk).1
 have ha:(w3.alloc o).heap.size=w3.heap.size+1:=by simp
 refine ⟨?_,?_,?_⟩
 · rw [hg.block _ (by omega) (fun e=>by have:=hown _ e.symm;omega),Below.heap_alloc _ _ _ (by omega)];exact h.1
 · rw [hg.block _ (by omega) (fun e=>by have:=hown _ e.symm;omega),Below.heap_alloc _ _ _ (by omega)];exact h.2.1
 · have m:=h.2.2.2.1.trans (Z0.of_below (blw w3 o))
   exact ⟨hg.os.trans m.os,hg.tape.trans m.tape,hg.output.trans m.output,Nat.le_trans m.size hg.size,fun k hk hn=>(hg.block k (Nat.lt_of_lt_of_le hk m.size) (fun e=>by have:=hown _ e.symm;omega)).trans (m.block k hk hn)⟩
theorem snoc_len:∀ (l:VL) (v:VT),(l.snoc v).len=l.len+1
 | .nil,_=>rfl
 | .cons u t,v=>by rw [VL.snoc,VL.len,VL.len,snoc_len t v]
theorem V6 {w:World} {b c:Nat} {j:Nat} {v:Value} {o:Obj} (h:w.heap[b]? = some o) (hne:b ≠ c):(w.setCell ⟨c,j,none⟩ v).heap[b]? = some o:=(Below.heap_setCell _ _ _ _ hne).trans h
theorem J0 {W W':World} {r:Nat} {k:Option Nat} (hg:W.grownBy W' k) (hk:∀ b,k=some b→r < b):(∀ ts d,Rd W r ts d→Rd W' r ts d)∧(KRd r W→KRd r W'):=by
 refine ⟨fun ts d h=>?_,fun h=>?_⟩
 · have hl:=h.lt
   obtain ⟨A,c,h0,h1,h2,h3⟩:=h;refine ⟨A,c,(hg.block r hl (fun e=>by have:=hk r e.symm;omega)).trans h0,h1,h2,fun j t ht=>?_⟩;obtain ⟨b,o,e,hb,g0,g1⟩:=h3 j t ht;have hs:=hg.block b (by omega) (fun e=>by have:=hk b e.symm;omega);exact ⟨b,o,e,hb,(World.cell?_of_block (a:=⟨b,o+j*2,none⟩) hs).trans g0,(World.cell?_of_block (a:=⟨b,o+j*2+1,none⟩) hs).trans g1⟩
 · obtain ⟨w0,h0,hl,hb⟩:=h
   exact ⟨w0,h0,hl,⟨hg.os.trans hb.os,hg.tape.trans hb.tape,hg.output.trans hb.output,Nat.le_trans hb.size hg.size,fun i hi=>(hg.block i (Nat.lt_of_lt_of_le hi hb.size) (fun e=>by have:=hk i e.symm;omega)).trans (hb.block i hi)⟩⟩
theorem KRd.set {W:World} {r b i:Nat} {v:Value} (h:KRd r W) (hb:r < b):KRd r (W.setCell ⟨b,i,none⟩ v):=by
 obtain ⟨w0,h0,hl,h⟩:=h;exact ⟨w0,h0,hl,h.setCell (p:=⟨b,i,none⟩) (by show _≤b;omega) v⟩
theorem Ynz {w2 w3 w4:World} {base r cap g:Nat} {V:Value} {l:VL} {v:VT} {o:Obj} {xs:List Value} {P:Nat→Prop} {d0 d1 d2 d3 d4:Value} (hr:r < base) (hbase:base≤w2.heap.size) (hown:w2.ownsRow base 94 5 V l.len xs) (hv:Ez w2 P l xs) (hP:∀ b,P b→base≤b∧b < w2.heap.size∧V.ownBlock ≠ some b) (m:Z0 r w2 w3)
  (hd:VP w3 (fun b=>w2.heap.size≤b∧b < w3.heap.size) v d0 d1 d2 d3 d4) (hown4:w4.ownsRow base 94 5 (.slice (some ⟨g,0,none⟩) (l.len+1) cap) (l.len+1) (xs++[d0,d1,d2,d3,d4])) (hg:(w3.alloc o).grownBy w4 V.ownBlock) (hat:V.ownBlock=some g∨g=(w3.alloc o).heap.size) :
  RT base w4 (.slice (some ⟨g,0,none⟩) (l.len+1) cap) (l.len+1) (l.snoc v):=by
 have hs:=m.size;have hV:∀ k,V.ownBlock=some k→k < w2.heap.size:=fun k hk=>(hown.lt k hk).2
 obtain ⟨h1,_,h3⟩:=Vu (wr:=w3) (w2:=w3) (w4:=w4) (V:=V) (g:=g) (o:=o) (P:=fun b=>P b∨(w2.heap.size≤b∧b < w3.heap.size)) (base:=base) (Nat.le_trans hbase hs) (fun k hk=>Nat.lt_of_lt_of_le (hV k hk) hs) (fun b hb=>by
  rcases hb with hb|hb
  · exact ⟨(hP b hb).1,Nat.lt_of_lt_of_le (hP b hb).2.1 hs,(hP b hb).2.2⟩
  · exact ⟨Nat.le_trans hbase hb.1,hb.2,fun e=>by have:=hV b e;omega⟩) (Below.refl _ _) hg hat
 exact ⟨_,_,hown4,Ez.snoc (VP.keep (fun b hb=>h1 b (.inr hb)) _ _ _ _ _ _ hd) ((hv.keep (P':=fun b=>P b∨(w2.heap.size≤b∧b < w3.heap.size)) (fun b hb=>⟨.inl hb,m.block b (hP b hb).2.1 (fun e=>by have:=(hP b hb).1;injection e;omega)⟩)).keep h1),h3⟩
theorem Yot {W W':World} {base r q:Nat} {V:Value} {xs:List Value} (h:W.ownsRow (base+2) 94 5 V q xs) (m:Z0 r W W') (hr:r < base):W'.ownsRow (base+2) 94 5 V q xs:=by
 refine World.ownsRow.kept h m ?_
 cases e:V.ownBlock with
 | none=>exact .inl rfl
 | some k=>exact .inr (fun e'=>by have:=(h.lt k e).1;injection e';omega)
theorem Ydz (f:Nat) (HV:∀ g,g < f→Yq1 g):Ylo f:=by
 intro fx d ts r w hf hG hd hb hR hK;obtain ⟨i0,hi,hz0,hz1,hz2⟩:=info_parts Qe;have K0:=Hd (LK.start w r hR.lt);have M0:=Hd ((Z0.of_below ((Below.refl w.heap.size w).alloc (Nat.le_refl _) Le)).trans (Z0.of_below ((Below.refl (w.alloc Le).heap.size (w.alloc Le)).alloc (Nat.le_refl _) (Ybv (.slice none 0 0)))):Z0 r w _);have R0:=Hd ((hR.below ((Below.refl w.heap.size w).alloc (Nat.le_refl _) Le)).below ((Below.refl (w.alloc Le).heap.size (w.alloc Le)).alloc (Nat.le_refl _) (Ybv (.slice none 0 0))));have D0:=Hd (hK.moved M0.out);have HE:=Hd (Zq5 r ts d oB _ (by omega) R0.out);rw [hb] at HE;simp only [if_true] at HE;have hlt:=Ie hb;have hgt:=Hd hG.tail;have HVV:=Hd HV;have hlen:ts.length≤200000:=by obtain ⟨_,_,_,_,h,_⟩:=hR;exact h
 clear hR hK hb hG HV
 by_cases hd16:d=16
 · have hl:Zqj f fx d ts=.error 4:=by unfold Zqj;rw [if_pos hd16]
   rw [hl];simp only [hd16,if_true] at HE
   show Calls _ _ _ _ fun e w'=>e=Yb 4∧Z0 r w w';clear hl
   go_enter Tryz.func148,Tryz.ntmps148
   go_wp2_with fail
   refine HE.out.mono ?_;rintro e w1 ⟨rfl,m1⟩;exact ⟨rfl,rfl,K0.out.2.2.2.1.trans m1⟩
 · have hl : Zqj f fx d ts=Xd f fx (d+1) .nil ts.tail:=by unfold Zqj;rw [if_neg hd16]
   rw [hl];simp only [hd16,if_false] at HE;obtain ⟨RES,hRES⟩:∃ RES,Xd f fx (d+1) .nil ts.tail=RES:=⟨_,rfl⟩;rw [hRES];have HRES:=Hd hRES;have hd15:d+1≤16:=by omega
   obtain ⟨d1,hd1⟩:∃ d1,d+1=d1:=⟨_,rfl⟩;have HD1:=Hd hd1;rw [hd1] at HE HRES hd15;obtain ⟨ts0,hts0⟩:∃ ts0,ts.tail=ts0:=⟨_,rfl⟩;rw [hts0] at HE HRES hgt hlt;clear hl hRES hd16 hd1 hts0
   go_enter Tryz.func148,Tryz.ntmps148
   go_wp2_with fail
   refine HE.out.mono ?_;rintro e w1 ⟨rfl,r1,m1⟩;have K1:=Hd (K0.out.next m1);have R1:=Hd r1;have D1:=Hd (D0.out.moved m1);clear r1 m1 K0 R0 D0 M0 HE;go_wp2_with fail
   go_loopg [] f (fun g wx=>∃ (acc:VL) (tq:List Tok) (V:Value),2*tq.length+2≤g∧acc.len+tq.length≤200000∧Aside (LK w r wx V acc∧Rd wx r tq d1∧KRd r wx∧Zs tq∧Xd g fx d1 acc tq=RES∧g≤f))
   case atStart=>exact ⟨.nil,ts0,.slice none 0 0,by omega,by rw [VL.len];omega,Za ⟨K1.out,R1.out,D1.out,hgt.out,HRES.out,Nat.le_refl _⟩⟩
   case round =>
    obtain ⟨acc,tq,V,hq,hal,HA⟩:=hrel;have KX:=Hd HA.out.1;have RX:=Hd HA.out.2.1;have DX:=Hd HA.out.2.2.1;have GX:=Hd HA.out.2.2.2.1;have EX:=Hd HA.out.2.2.2.2.1;have hgf:=HA.out.2.2.2.2.2;clear HA K1 R1 D1
    cases gk with
    | zero=>omega
    | succ g =>
      have HS:=Hd (Yg r tq d1 1 cB _ RX.out)
      cases hc:atB 1 cB tq with
      | true =>
        have hst:Xs 1 cB tq=tq.tail:=by unfold Xs;rw [hc];rfl
        rw [hst,hc] at HS;have he:=EX.out;rw [Zvl hc] at he;have hgq:=Hd GX.out.tail;subst he;clear hst hc EX HRES;go_wp2_with fail
        refine HS.out.mono ?_;rintro e w2 ⟨rfl,r2,m2⟩;have K2:=Hd (KX.out.next m2);have R2:=Hd r2;clear r2 m2;go_wp2_with fail
        have HL:=Hd (Zza r tq.tail d _ (by omega) (by rw [HD1.out];exact R2.out));refine HL.out.mono ?_;rintro e w3 ⟨rfl,r3,m3⟩;have K3:=Hd (K2.out.next m3);have R3:=Hd r3;clear r3 m3 HL K2 R2;obtain ⟨xs,P,hown,hvals,hP⟩:=K3.out.2.2.1;obtain ⟨Ao,co,rfl⟩:=Xi hown;obtain ⟨A6,c6,e6,hL6⟩:=Yjm hown hvals;injection e6 with e6 _ e7
        subst e6 e7;have HL6:=Hd (And.intro hL6 (And.intro hP (fun b hb=>hown.lt b hb)));obtain ⟨k0,k1,k2,k3,k4,kz⟩:=gvc K3.out.2.1;obtain ⟨j0,j1,j2,j3,j4,jz⟩:=gvc K3.out.1;have z0:=jz 0;have z1:=jz 1;have z2:=jz 2;have z3:=jz 3;have z4:=jz 4;have hlw:acc.len≤200000:=by omega
        clear kz jz hown hvals hP hL6;go_wp2_with fail
        have hr5:=K3.out.2.2.2.2.1;refine V7 rfl rfl rfl (Fu K3.out.1) ⟨⟨_,_,_,_,_,rfl,?_⟩,R3.out.set5 hr5,hgq.out,((((K3.out.2.2.2.1.put (Nat.le_refl _)).put (Nat.le_refl _)).put (Nat.le_refl _)).put (Nat.le_refl _)).put (Nat.le_refl _)⟩;unfold VP;refine ⟨rfl,rfl,rfl,Nat.zero_le _,⟨_,_,rfl,by omega,LP.keep (fun b hb=>?_) _ _ _ HL6.out.1⟩,none,0,rfl,Nat.zero_le _,by unfold MP;trivial⟩
        have hbb:w.heap.size+2≤b∧b < w3.heap.size:=by
          rcases hb with hb|hb
          · exact ⟨(HL6.out.2.1 b hb).1,(HL6.out.2.1 b hb).2.1⟩
          · exact HL6.out.2.2 b hb
        exact ⟨⟨by omega,Nat.lt_of_lt_of_eq hbb.2 (Aa w3 w.heap.size _ _ _ _ _).symm⟩,O8 w3 w.heap.size _ _ _ _ _ (by omega)⟩
      | false =>
        have hst:Xs 1 cB tq=tq:=by unfold Xs;rw [hc];rfl
        rw [hst,hc] at HS;have CV:=fun wx (hx:Rd wx r tq d1) (hk:KRd r wx)=>Hd (HVV.out g (by omega) fx d1 tq r wx (by omega) GX.out (by omega) hx hk);clear hst
        cases hv:F3 g fx d1 tq with
        | error x =>
          rw [hv] at CV;have he:=EX.out;rw [Zyy hc hv] at he;subst he;clear hc hv EX HRES;go_wp2_with fail
          refine HS.out.mono ?_;rintro e w2 ⟨rfl,r2,m2⟩;have K2:=Hd (KX.out.next m2);have R2:=Hd r2;have D2:=Hd (DX.out.moved m2);have W2:=Hd (Z0.of_below (r:=r) (Below.drew (Below.refl w2.heap.size w2)));clear r2 m2;obtain ⟨k0,k1,k2,k3,k4,kz⟩:=gvc K2.out.2.1;have z3:=kz 3;clear kz;go_wp2_with fail
          refine wp_region_held_drew (S:=fun _=>True) (by kernel_rfl) trivial (fun _=>?_);refine tkE (i:=0) (v:=?_) rfl (Or.inl ⟨by rfl,?_⟩) ?_
          rotate_left
          · (intro w _;go_simp;try with_reducible rfl)
          simp only [Act.put,List.setIfInBounds_toArray];refine tkE (i:=2) (v:=?_) rfl (Or.inl ⟨by rfl,?_⟩) ?_
          rotate_left
          · (intro w _;go_simp;try with_reducible rfl)
          simp only [Act.put];refine tkE (i:=3) (v:=?_) rfl (Or.inl ⟨by rfl,?_⟩) ?_
          rotate_left
          · (intro w _;go_simp;try with_reducible rfl)
          simp only [Act.put];refine rd2E 1 4 rfl rfl (fun K hK=>?_) (fun K hK=>?_)
          focus
            go_simp
            refine hK.out _ _ trivial (fun _=>?_);clear hK K
            try simp only [Act.put,stT,stZ,stS]
            refine rd1E 4 rfl (fun K hK=>?_)
          rotate_left
          focus
            skip
          all_goals
            go_simp
            go_at_call 117
            refine (CV _ (R2.out.below (Below.drew (Below.refl _ _))) (D2.out.moved W2.out)).out.mono ?_;rintro e w3 ⟨rfl,m3⟩;exact ⟨rfl,rfl,K2.out.2.2.2.1.trans (W2.out.trans m3)⟩
        | ok p =>
          obtain ⟨v,tq2⟩:=p;rw [hv] at CV;have he:=EX.out;rw [Zjd hc hv] at he;have HRE:=Hd he;have hless:=(F6 g).1 _ _ _ _ _ hv;clear hc hv he;go_wp2_with fail
          refine HS.out.mono ?_;rintro e w2 ⟨rfl,r2,m2⟩;have K2:=Hd (KX.out.next m2);have R2:=Hd r2;have D2:=Hd (DX.out.moved m2);clear r2 m2;obtain ⟨k0,k1,k2,k3,k4,kz⟩:=gvc K2.out.2.1;have z3:=kz 3;clear kz;have W2:=Hd (Z0.of_below (r:=r) (Below.drew (Below.refl w2.heap.size w2)));have hshape:=K2.out.2.2.1;obtain ⟨xs,P,hown,hvals,hP⟩:=hshape;obtain ⟨Ao,co,rfl⟩:=Xi hown;have HRT:=Hd (And.intro hown (And.intro hvals hP));clear hown hvals hP;go_wp2_with fail
          refine wp_region_held_drew (S:=fun _=>True) (by kernel_rfl) trivial (fun _=>?_);refine tkE (i:=0) (v:=?_) rfl (Or.inl ⟨by rfl,?_⟩) ?_
          rotate_left
          · (intro w _;go_simp;try with_reducible rfl)
          simp only [Act.put,List.setIfInBounds_toArray];refine tkE (i:=2) (v:=?_) rfl (Or.inl ⟨by rfl,?_⟩) ?_
          rotate_left
          · (intro w _;go_simp;try with_reducible rfl)
          simp only [Act.put];refine tkE (i:=3) (v:=?_) rfl (Or.inl ⟨by rfl,?_⟩) ?_
          rotate_left
          · (intro w _;go_simp;try with_reducible rfl)
          simp only [Act.put];refine rd2E 1 4 rfl rfl (fun K hK=>?_) (fun K hK=>?_)
          focus
            go_simp
            refine hK.out _ _ trivial (fun _=>?_);clear hK K
            try simp only [Act.put,stT,stZ,stS]
            refine rd1E 4 rfl (fun K hK=>?_)
            go_simp
            go_at_call 117
            refine (CV _ (R2.out.below (Below.drew (Below.refl _ _))) (D2.out.moved W2.out)).out.mono ?_;rintro e w3 ⟨⟨d0,d1',d2,d3,d4,rfl,hvp⟩,r3,g3,m3⟩;have HVP:=Hd hvp;obtain ⟨vk,vn,vs,vl,vm⟩:=v;unfold VP at hvp;obtain ⟨rfl,rfl,rfl,_,⟨A3,c3,rfl,_,_⟩,A4,c4,rfl,_,_⟩:=hvp;have HM3:=Hd (W2.out.trans m3);have R3:=Hd (And.intro r3 g3);have K3:=Hd (K2.out.next HM3.out);have HM4:=Hd m3;clear r3 g3 m3;obtain ⟨j0,j1,j2,j3,j4,jz⟩:=gvc K3.out.2.1;have y3:=jz 3;have jA:=fun o=>(World.cell?_of_block (a:=⟨w.heap.size+1,3,none⟩) (Below.heap_alloc w3 o _ (Nat.lt_of_succ_le K3.out.2.2.2.2.2))).trans j3;clear jz k0 k1 k2 k3 k4 z3;go_wp2_with fail
            refine hK.out _ _ trivial (fun _=>?_);clear hK K
            try simp only [Act.put,stT,stZ,stS]
            refine rdE (rs:=[5]) ?_
          rotate_left
          focus
            go_simp
            go_at_call 117
            refine (CV _ (R2.out.below (Below.drew (Below.refl _ _))) (D2.out.moved W2.out)).out.mono ?_;rintro e w3 ⟨⟨d0,d1',d2,d3,d4,rfl,hvp⟩,r3,g3,m3⟩;have HVP:=Hd hvp;obtain ⟨vk,vn,vs,vl,vm⟩:=v;unfold VP at hvp;obtain ⟨rfl,rfl,rfl,_,⟨A3,c3,rfl,_,_⟩,A4,c4,rfl,_,_⟩:=hvp;have HM3:=Hd (W2.out.trans m3);have R3:=Hd (And.intro r3 g3);have K3:=Hd (K2.out.next HM3.out);have HM4:=Hd m3;clear r3 g3 m3;obtain ⟨j0,j1,j2,j3,j4,jz⟩:=gvc K3.out.2.1;have y3:=jz 3;have jA:=fun o=>(World.cell?_of_block (a:=⟨w.heap.size+1,3,none⟩) (Below.heap_alloc w3 o _ (Nat.lt_of_succ_le K3.out.2.2.2.2.2))).trans j3;clear jz k0 k1 k2 k3 k4 z3;go_wp2_with fail
            refine hK.out _ _ trivial (fun _=>?_);clear hK K
            try simp only [Act.put,stT,stZ,stS]
            refine rd2E 1 5 rfl rfl (fun K hK=>?_) (fun K hK=>?_)
            focus
             go_simp
             refine hK.out _ _ trivial (fun _=>?_);clear hK K
             try simp only [Act.put,stT,stZ,stS]
             refine rdE (rs:=[5]) ?_
            rotate_left
            focus
             go_simp
             refine hK.out _ _ trivial (fun _=>?_);clear hK K
             try simp only [Act.put,stT,stZ,stS]
             refine rdE (rs:=[1]) ?_
          all_goals
            refine AllReadyH.cons rfl (fun K hK=>?_) AllReadyH.nil
            go_simp
            refine hK.out _ _ trivial (fun _=>?_);clear hK K
            try simp only [Act.put,stT,stZ,stS]
            refine rd1E 6 rfl (fun K hK=>?_);refine step_append_lies _ (by rfl) _ _ 91 (by rfl) (w.heap.size+2) 94 i0 (.agg #[.int .i64 0,.int .i64 0,.string ⟨#[]⟩,.slice none 0 0,.slice none 0 0]) 5 80 Tryz.underlying91 hi hz0 hz1 hz2 (by rfl) (by decide) _ acc.len xs (by rfl) (Yw (Yot HRT.out.1 HM3.out K2.out.2.2.2.2.1) ((Below.refl _ _).alloc (Nat.le_refl _) _)) _ 1 1 [.int .i64 vk,.int .i64 vn,.string vs,.slice A3 vl.len c3,.slice A4 vm.len c4] (by rfl) (by rfl) (Yh9 _ _ _ _ _ _ _ (by first|rfl|(simp;done))) (by intro y hy;simp at hy;rcases hy with rfl|rfl|rfl|rfl|rfl<;>rfl) (by decide) (by unfold maxLen;omega) (by omega) (by have h1:=K2.out.2.2.2.2.2;have h2:=HM3.out.size;simp;omega) _ (by rfl) ?_;intro gg cap2 w4 hown4 hgrow hat hlt4;have HG4:=Hd hgrow;have HO4:=Hd hown4;have HT4:=Hd hat;have HL4:=Hd (Yhx K3.out hgrow);obtain ⟨x0,x1,x2,x3,x4,xz⟩:=gvc HL4.out.2.1;have u3:=xz 3;clear hgrow hown4 hat xz j0 j1 j2 j3 j4 y3 jA;refine hK.out _ _ trivial (fun _=>?_);clear hK K;simp only [Act.put,List.setIfInBounds_toArray];refine rd1E 7 rfl (fun K hK=>?_)
            go_simp
            refine hK.out _ _ trivial (fun _=>?_);clear hK K
            try simp only [Act.put,stT,stZ,stS]
            refine rd1E 8 rfl (fun K hK=>?_)
            go_simp
            refine hK.out _ _ trivial (fun _=>?_);clear hK K
            try simp only [Act.put,stT,stZ,stS]
            refine wpAnyH_done (by kernel_rfl) ?_ _;go_wp2_with fail
            have hr0:=K2.out.2.2.2.2.1;have G5:=J0 HG4.out (r:=r) (fun b hb=>by have:=(HRT.out.1.lt b hb).1;omega);have R4:=(G5.1 _ _ (R3.out.1.below (blw _ _))).set (b:=w.heap.size+1) (i:=3) (v:=.slice (some ⟨gg,0,none⟩) (acc.len+1) cap2) (by omega);have D4:=(G5.2 ((D2.out.moved HM3.out).moved (Z0.of_below (blw _ _)))).set (b:=w.heap.size+1) (i:=3) (v:=.slice (some ⟨gg,0,none⟩) (acc.len+1) cap2) (by omega);have T4:=Ynz (by omega) K2.out.2.2.2.2.2 HRT.out.1 HRT.out.2.1 HRT.out.2.2 HM3.out HVP.out HO4.out HG4.out HT4.out
            go_roundg g
            case measure=>omega
            case rel=>exact ⟨acc.snoc (.mk vk vn vs vl vm),tq2,_,by omega,by rw [snoc_len];omega,Za ⟨⟨V6 HL4.out.1 (by omega),heap_setCell_same _ _ 3 _ _ _ HL4.out.2.1,by rw [snoc_len];exact T4.moved Z0.set (by omega),HL4.out.2.2.put (Nat.le_succ _),hr0,by have h1:=K2.out.2.2.2.2.2;have h2:=HM3.out.size;have h3:=HG4.out.size;simp [World.setCell] at h3 ⊢;omega⟩,R4,D4,R3.out.2,HRE.out,by omega⟩⟩
theorem RM.moved {base r q:Nat} {W W':World} {V:Value} {l:VM} (h:RM base W V q l) (m:Z0 r W W') (hr:r < base):RM base W' V q l:=by
 obtain ⟨xs,P,h1,h2,h3⟩:=h;refine ⟨xs,P,World.ownsRow.kept h1 m ?_,h2.keep (fun b hb=>⟨hb,m.block b (h3 b hb).2.1 (fun e=>by have:=(h3 b hb).1;injection e;omega)⟩),fun b hb=>⟨(h3 b hb).1,Nat.lt_of_lt_of_le (h3 b hb).2.1 m.size,(h3 b hb).2.2⟩⟩
 cases e:V.ownBlock with
 | none=>exact .inl rfl
 | some k=>exact .inr (fun e'=>by have:=(h1.lt k e).1;injection e';omega)
abbrev Ypa (V:Value):Obj:=.cells #[.int .i64 7,.int .i64 0,.string ⟨#[]⟩,.slice none 0 0,V] 94
def MK (w:World) (r:Nat) (W:World) (V:Value) (acc:VM):Prop:=W.heap[w.heap.size]? = some Le∧W.heap[w.heap.size+1]? = some (Ypa V)∧RM (w.heap.size+2) W V acc.len acc∧Z0 r w W∧r < w.heap.size∧w.heap.size+2≤W.heap.size
theorem MK.next {w:World} {r:Nat} {W W':World} {V:Value} {acc:VM} (h:MK w r W V acc) (m:Z0 r W W'):MK w r W' V acc:=by
 obtain ⟨h1,h2,h3,h4,h5,h6⟩:=h;exact ⟨m.keep h1 (by omega),m.keep h2 (by omega),h3.moved m (by omega),h4.trans m,h5,Nat.le_trans h6 m.size⟩
theorem MK.start (w:World) (r:Nat) (hr:r < w.heap.size):MK w r ((w.alloc Le).alloc (Ypa (.slice none 0 0))) (.slice none 0 0) .nil:=by
 refine ⟨(Below.heap_alloc _ _ _ (by simp)).trans (heap_alloc_new _ _),heap_alloc2_new _ _ _,RM.start _ _,(Z0.of_below ((Below.refl _ _).alloc (Nat.le_refl _) _)).trans (Z0.of_below ((Below.refl _ _).alloc (Nat.le_refl _) _)),hr,by simp⟩
theorem Yb2 {g:Nat} {fx:Bool} {d:Nat} {acc:VM} {ts:List Tok} (h:atB 1 cmB ts=true):Vn (g+1) fx d acc ts=.ok (acc,ts.tail):=by rw [Vn,if_pos h]
theorem Ybo {g:Nat} {fx:Bool} {d:Nat} {acc:VM} {ts:List Tok} {e:Int} (h:atB 1 cmB ts=false) (hv:C9 g fx d ts=.error e):Vn (g+1) fx d acc ts=.error e:=by rw [Vn,if_neg (by rw [h];simp),hv]
theorem Zy5 {g:Nat} {fx:Bool} {d:Nat} {acc:VM} {ts r:List Tok} {nm:ByteArray} {v:VT} (h:atB 1 cmB ts=false) (hv:C9 g fx d ts=.ok ((nm,v),r)):Vn (g+1) fx d acc ts=Vn g fx d (acc.snoc nm v) r:=by rw [Vn,if_neg (by rw [h];simp),hv]
theorem Yl7 {w w3 w4:World} {r:Nat} {V:Value} {acc:VM} {o:Obj} (h:MK w r w3 V acc) (hg:(w3.alloc o).grownBy w4 V.ownBlock):w4.heap[w.heap.size]? = some Le∧w4.heap[w.heap.size+1]? = some (Ypa V)∧Z0 r w w4:=by
 have hlt:=h.2.2.2.2.2;have hr:=h.2.2.2.2.1
 have hown:∀ k,V.ownBlock=some k→w.heap.size+2≤k:=by
   obtain ⟨xs,P,h1,_,_⟩:=h.2.2.1;exact fun k hk=>(h1.lt k hk).1
 have ha:(w3.alloc o).heap.size=w3.heap.size+1:=by simp
 refine ⟨?_,?_,?_⟩
 · rw [hg.block _ (by omega) (fun e=>by have:=hown _ e.symm;omega),Below.heap_alloc _ _ _ (by omega)];exact h.1
 · rw [hg.block _ (by omega) (fun e=>by have:=hown _ e.symm;omega),Below.heap_alloc _ _ _ (by omega)];exact h.2.1
 · have m:=h.2.2.2.1.trans (Z0.of_below (blw w3 o))
   exact ⟨hg.os.trans m.os,hg.tape.trans m.tape,hg.output.trans m.output,Nat.le_trans m.size hg.size,fun k hk hn=>(hg.block k (Nat.lt_of_lt_of_le hk m.size) (fun e=>by have:=hown _ e.symm;omega)).trans (m.block k hk hn)⟩
theorem At:∀ (l:VM) (nm:ByteArray) (v:VT),(l.snoc nm v).len=l.len+1
 | .nil,_,_=>rfl
 | .cons x u t,nm,v=>by rw [VM.snoc,VM.len,VM.len,At t nm v]
theorem Yp5 {nm:ByteArray} {w2 w3 w4:World} {base r cap g:Nat} {V:Value} {l:VM} {v:VT} {o:Obj} {xs:List Value} {P:Nat→Prop} {d0 d1 d2 d3 d4:Value} (hnm:nm.size≤9223372036854775807) (hr:r < base) (hbase:base≤w2.heap.size) (hown:w2.ownsRow base 151 6 V l.len xs) (hv:G9 w2 P l xs) (hP:∀ b,P b→base≤b∧b < w2.heap.size∧V.ownBlock ≠ some b) (m:Z0 r w2 w3)
  (hd:VP w3 (fun b=>w2.heap.size≤b∧b < w3.heap.size) v d0 d1 d2 d3 d4) (hown4:w4.ownsRow base 151 6 (.slice (some ⟨g,0,none⟩) (l.len+1) cap) (l.len+1) (xs++[.string nm,d0,d1,d2,d3,d4])) (hg:(w3.alloc o).grownBy w4 V.ownBlock) (hat:V.ownBlock=some g∨g=(w3.alloc o).heap.size) :
  RM base w4 (.slice (some ⟨g,0,none⟩) (l.len+1) cap) (l.len+1) (l.snoc nm v):=by
 have hs:=m.size;have hV:∀ k,V.ownBlock=some k→k < w2.heap.size:=fun k hk=>(hown.lt k hk).2
 obtain ⟨h1,_,h3⟩:=Vu (wr:=w3) (w2:=w3) (w4:=w4) (V:=V) (g:=g) (o:=o) (P:=fun b=>P b∨(w2.heap.size≤b∧b < w3.heap.size)) (base:=base) (Nat.le_trans hbase hs) (fun k hk=>Nat.lt_of_lt_of_le (hV k hk) hs) (fun b hb=>by
  rcases hb with hb|hb
  · exact ⟨(hP b hb).1,Nat.lt_of_lt_of_le (hP b hb).2.1 hs,(hP b hb).2.2⟩
  · exact ⟨Nat.le_trans hbase hb.1,hb.2,fun e=>by have:=hV b e;omega⟩) (Below.refl _ _) hg hat
 exact ⟨_,_,hown4,G9.snoc hnm (VP.keep (fun b hb=>h1 b (.inr hb)) _ _ _ _ _ _ hd) ((hv.keep (P':=fun b=>P b∨(w2.heap.size≤b∧b < w3.heap.size)) (fun b hb=>⟨.inl hb,m.block b (hP b hb).2.1 (fun e=>by have:=(hP b hb).1;injection e;omega)⟩)).keep h1),h3⟩
theorem Yp9 {W W':World} {base r q:Nat} {V:Value} {xs:List Value} (h:W.ownsRow (base+2) 151 6 V q xs) (m:Z0 r W W') (hr:r < base):W'.ownsRow (base+2) 151 6 V q xs:=by
 refine World.ownsRow.kept h m ?_
 cases e:V.ownBlock with
 | none=>exact .inl rfl
 | some k=>exact .inr (fun e'=>by have:=(h.lt k e).1;injection e';omega)
theorem Ygh (f:Nat) (HV:∀ g,g < f→Yq3 g):Yq9 f:=by
 intro fx d ts r w hf hG hd hb hR hK;obtain ⟨i0,hi,hz0,hz1,hz2⟩:=info_parts Yj2;have K0:=Hd (MK.start w r hR.lt);have M0:=Hd ((Z0.of_below ((Below.refl w.heap.size w).alloc (Nat.le_refl _) Le)).trans (Z0.of_below ((Below.refl (w.alloc Le).heap.size (w.alloc Le)).alloc (Nat.le_refl _) (Ypa (.slice none 0 0)))):Z0 r w _);have R0:=Hd ((hR.below ((Below.refl w.heap.size w).alloc (Nat.le_refl _) Le)).below ((Below.refl (w.alloc Le).heap.size (w.alloc Le)).alloc (Nat.le_refl _) (Ypa (.slice none 0 0))));have D0:=Hd (hK.moved M0.out);have HE:=Hd (Zq5 r ts d omB _ (by omega) R0.out);rw [hb] at HE;simp only [if_true] at HE;have hlt:=Ie hb;have hgt:=Hd hG.tail;have HVV:=Hd HV;have hlen:ts.length≤200000:=by obtain ⟨_,_,_,_,h,_⟩:=hR;exact h
 clear hR hK hb hG HV
 by_cases hd16:d=16
 · have hl:Yk4 f fx d ts=.error 4:=by unfold Yk4;rw [if_pos hd16]
   rw [hl];simp only [hd16,if_true] at HE
   show Calls _ _ _ _ fun e w'=>e=Yb 4∧Z0 r w w';clear hl
   go_enter Tryz.func149,Tryz.ntmps149
   go_wp2_with fail
   refine HE.out.mono ?_;rintro e w1 ⟨rfl,m1⟩;exact ⟨rfl,rfl,K0.out.2.2.2.1.trans m1⟩
 · have hl : Yk4 f fx d ts=Vn f fx (d+1) .nil ts.tail:=by unfold Yk4;rw [if_neg hd16]
   rw [hl];simp only [hd16,if_false] at HE;obtain ⟨RES,hRES⟩:∃ RES,Vn f fx (d+1) .nil ts.tail=RES:=⟨_,rfl⟩;rw [hRES];have HRES:=Hd hRES;have hd15:d+1≤16:=by omega
   obtain ⟨d1,hd1⟩:∃ d1,d+1=d1:=⟨_,rfl⟩;have HD1:=Hd hd1;rw [hd1] at HE HRES hd15;obtain ⟨ts0,hts0⟩:∃ ts0,ts.tail=ts0:=⟨_,rfl⟩;rw [hts0] at HE HRES hgt hlt;clear hl hRES hd16 hd1 hts0
   go_enter Tryz.func149,Tryz.ntmps149
   go_wp2_with fail
   refine HE.out.mono ?_;rintro e w1 ⟨rfl,r1,m1⟩;have K1:=Hd (K0.out.next m1);have R1:=Hd r1;have D1:=Hd (D0.out.moved m1);clear r1 m1 K0 R0 D0 M0 HE;go_wp2_with fail
   go_loopg [] f (fun g wx=>∃ (acc:VM) (tq:List Tok) (V:Value),2*tq.length+2≤g∧acc.len+tq.length≤200000∧Aside (MK w r wx V acc∧Rd wx r tq d1∧KRd r wx∧Zs tq∧Vn g fx d1 acc tq=RES∧g≤f))
   case atStart=>exact ⟨.nil,ts0,.slice none 0 0,by omega,by rw [VM.len];omega,Za ⟨K1.out,R1.out,D1.out,hgt.out,HRES.out,Nat.le_refl _⟩⟩
   case round =>
    obtain ⟨acc,tq,V,hq,hal,HA⟩:=hrel;have KX:=Hd HA.out.1;have RX:=Hd HA.out.2.1;have DX:=Hd HA.out.2.2.1;have GX:=Hd HA.out.2.2.2.1;have EX:=Hd HA.out.2.2.2.2.1;have hgf:=HA.out.2.2.2.2.2;clear HA K1 R1 D1
    cases gk with
    | zero=>omega
    | succ g =>
      have HS:=Hd (Yg r tq d1 1 cmB _ RX.out)
      cases hc:atB 1 cmB tq with
      | true =>
        have hst:Xs 1 cmB tq=tq.tail:=by unfold Xs;rw [hc];rfl
        rw [hst,hc] at HS;have he:=EX.out;rw [Yb2 hc] at he;have hgq:=Hd GX.out.tail;subst he;clear hst hc EX HRES;go_wp2_with fail
        refine HS.out.mono ?_;rintro e w2 ⟨rfl,r2,m2⟩;have K2:=Hd (KX.out.next m2);have R2:=Hd r2;clear r2 m2;go_wp2_with fail
        have HL:=Hd (Zza r tq.tail d _ (by omega) (by rw [HD1.out];exact R2.out));refine HL.out.mono ?_;rintro e w3 ⟨rfl,r3,m3⟩;have K3:=Hd (K2.out.next m3);have R3:=Hd r3;clear r3 m3 HL K2 R2;obtain ⟨xs,P,hown,hvals,hP⟩:=K3.out.2.2.1;obtain ⟨Ao,co,rfl⟩:=Xi hown;obtain ⟨A6,c6,e6,hL6⟩:=Zk0 hown hvals;injection e6 with e6 _ e7
        subst e6 e7;have HL6:=Hd (And.intro hL6 (And.intro hP (fun b hb=>hown.lt b hb)));obtain ⟨k0,k1,k2,k3,k4,kz⟩:=gvc K3.out.2.1;obtain ⟨j0,j1,j2,j3,j4,jz⟩:=gvc K3.out.1;have z0:=jz 0;have z1:=jz 1;have z2:=jz 2;have z3:=jz 3;have z4:=jz 4;have hlw:acc.len≤200000:=by omega
        clear kz jz hown hvals hP hL6;go_wp2_with fail
        have hr5:=K3.out.2.2.2.2.1;refine V7 rfl rfl rfl (Fu K3.out.1) ⟨⟨_,_,_,_,_,rfl,?_⟩,R3.out.set5 hr5,hgq.out,((((K3.out.2.2.2.1.put (Nat.le_refl _)).put (Nat.le_refl _)).put (Nat.le_refl _)).put (Nat.le_refl _)).put (Nat.le_refl _)⟩;unfold VP;refine ⟨rfl,rfl,rfl,Nat.zero_le _,⟨none,0,rfl,Nat.zero_le _,by unfold LP;trivial⟩,_,_,rfl,by omega,MP.keep (fun b hb=>?_) _ _ _ HL6.out.1⟩
        have hbb:w.heap.size+2≤b∧b < w3.heap.size:=by
          rcases hb with hb|hb
          · exact ⟨(HL6.out.2.1 b hb).1,(HL6.out.2.1 b hb).2.1⟩
          · exact HL6.out.2.2 b hb
        exact ⟨⟨by omega,Nat.lt_of_lt_of_eq hbb.2 (Aa w3 w.heap.size _ _ _ _ _).symm⟩,O8 w3 w.heap.size _ _ _ _ _ (by omega)⟩
      | false =>
        have hst:Xs 1 cmB tq=tq:=by unfold Xs;rw [hc];rfl
        rw [hst,hc] at HS;have CV:=fun wx (hx:Rd wx r tq d1) (hk:KRd r wx)=>Hd (HVV.out g (by omega) fx d1 tq r wx (by omega) GX.out (by omega) hx hk);clear hst
        cases hv:C9 g fx d1 tq with
        | error x =>
          rw [hv] at CV;have he:=EX.out;rw [Ybo hc hv] at he;subst he;clear hc hv EX HRES;go_wp2_with fail
          refine HS.out.mono ?_;rintro e w2 ⟨rfl,r2,m2⟩;have K2:=Hd (KX.out.next m2);have R2:=Hd r2;have D2:=Hd (DX.out.moved m2);have W2:=Hd (Z0.of_below (r:=r) (Below.drew (Below.refl w2.heap.size w2)));clear r2 m2;obtain ⟨k0,k1,k2,k3,k4,kz⟩:=gvc K2.out.2.1;have z3:=kz 4;clear kz;go_wp2_with fail
          refine wp_region_held_drew (S:=fun _=>True) (by kernel_rfl) trivial (fun _=>?_);refine tkE (i:=0) (v:=?_) rfl (Or.inl ⟨by rfl,?_⟩) ?_
          rotate_left
          · (intro w _;go_simp;try with_reducible rfl)
          simp only [Act.put,List.setIfInBounds_toArray];refine tkE (i:=2) (v:=?_) rfl (Or.inl ⟨by rfl,?_⟩) ?_
          rotate_left
          · (intro w _;go_simp;try with_reducible rfl)
          simp only [Act.put];refine tkE (i:=3) (v:=?_) rfl (Or.inl ⟨by rfl,?_⟩) ?_
          rotate_left
          · (intro w _;go_simp;try with_reducible rfl)
          simp only [Act.put];refine rd2E 1 4 rfl rfl (fun K hK=>?_) (fun K hK=>?_)
          focus
            go_simp
            refine hK.out _ _ trivial (fun _=>?_);clear hK K
            try simp only [Act.put,stT,stZ,stS]
            refine rd1E 4 rfl (fun K hK=>?_)
          rotate_left
          focus
            skip
          all_goals
            go_simp
            go_at_call 145
            refine (CV _ (R2.out.below (Below.drew (Below.refl _ _))) (D2.out.moved W2.out)).out.mono ?_;rintro e w3 ⟨rfl,m3⟩;exact ⟨rfl,rfl,K2.out.2.2.2.1.trans (W2.out.trans m3)⟩
        | ok p =>
          obtain ⟨⟨nm,v⟩,tq2⟩:=p;rw [hv] at CV;have he:=EX.out;rw [Zy5 hc hv] at he;have HRE:=Hd he;have hless:=(F6 g).2.2.2 _ _ _ _ _ hv;clear hc hv he;go_wp2_with fail
          refine HS.out.mono ?_;rintro e w2 ⟨rfl,r2,m2⟩;have K2:=Hd (KX.out.next m2);have R2:=Hd r2;have D2:=Hd (DX.out.moved m2);clear r2 m2;obtain ⟨k0,k1,k2,k3,k4,kz⟩:=gvc K2.out.2.1;have z3:=kz 4;clear kz;have W2:=Hd (Z0.of_below (r:=r) (Below.drew (Below.refl w2.heap.size w2)));have hshape:=K2.out.2.2.1;obtain ⟨xs,P,hown,hvals,hP⟩:=hshape;obtain ⟨Ao,co,rfl⟩:=Xi hown;have HRM:=Hd (And.intro hown (And.intro hvals hP));clear hown hvals hP;go_wp2_with fail
          refine wp_region_held_drew (S:=fun _=>True) (by kernel_rfl) trivial (fun _=>?_);refine tkE (i:=0) (v:=?_) rfl (Or.inl ⟨by rfl,?_⟩) ?_
          rotate_left
          · (intro w _;go_simp;try with_reducible rfl)
          simp only [Act.put,List.setIfInBounds_toArray];refine tkE (i:=2) (v:=?_) rfl (Or.inl ⟨by rfl,?_⟩) ?_
          rotate_left
          · (intro w _;go_simp;try with_reducible rfl)
          simp only [Act.put];refine tkE (i:=3) (v:=?_) rfl (Or.inl ⟨by rfl,?_⟩) ?_
          rotate_left
          · (intro w _;go_simp;try with_reducible rfl)
          simp only [Act.put];refine rd2E 1 4 rfl rfl (fun K hK=>?_) (fun K hK=>?_)
          focus
            go_simp
            refine hK.out _ _ trivial (fun _=>?_);clear hK K
            try simp only [Act.put,stT,stZ,stS]
            refine rd1E 4 rfl (fun K hK=>?_)
            go_simp
            go_at_call 145
            refine (CV _ (R2.out.below (Below.drew (Below.refl _ _))) (D2.out.moved W2.out)).out.mono ?_;rintro e w3 ⟨⟨d0,d1',d2,d3,d4,rfl,hnm,hvp⟩,r3,g3,m3⟩;have HVP:=Hd hvp;have HNM:=Hd hnm;obtain ⟨vk,vn,vs,vl,vm⟩:=v;unfold VP at hvp;obtain ⟨rfl,rfl,rfl,_,⟨A3,c3,rfl,_,_⟩,A4,c4,rfl,_,_⟩:=hvp;have HM3:=Hd (W2.out.trans m3);have R3:=Hd (And.intro r3 g3);have K3:=Hd (K2.out.next HM3.out);have HM4:=Hd m3;clear r3 g3 m3;obtain ⟨j0,j1,j2,j3,j4,jz⟩:=gvc K3.out.2.1;have y3:=jz 4;have jA:=fun o=>(World.cell?_of_block (a:=⟨w.heap.size+1,4,none⟩) (Below.heap_alloc w3 o _ (Nat.lt_of_succ_le K3.out.2.2.2.2.2))).trans j4;clear jz k0 k1 k2 k3 k4 z3;go_wp2_with fail
            refine hK.out _ _ trivial (fun _=>?_);clear hK K
            try simp only [Act.put,stT,stZ,stS]
            refine rdE (rs:=[5]) ?_
          rotate_left
          focus
            go_simp
            go_at_call 145
            refine (CV _ (R2.out.below (Below.drew (Below.refl _ _))) (D2.out.moved W2.out)).out.mono ?_;rintro e w3 ⟨⟨d0,d1',d2,d3,d4,rfl,hnm,hvp⟩,r3,g3,m3⟩;have HVP:=Hd hvp;have HNM:=Hd hnm;obtain ⟨vk,vn,vs,vl,vm⟩:=v;unfold VP at hvp;obtain ⟨rfl,rfl,rfl,_,⟨A3,c3,rfl,_,_⟩,A4,c4,rfl,_,_⟩:=hvp;have HM3:=Hd (W2.out.trans m3);have R3:=Hd (And.intro r3 g3);have K3:=Hd (K2.out.next HM3.out);have HM4:=Hd m3;clear r3 g3 m3;obtain ⟨j0,j1,j2,j3,j4,jz⟩:=gvc K3.out.2.1;have y3:=jz 4;have jA:=fun o=>(World.cell?_of_block (a:=⟨w.heap.size+1,4,none⟩) (Below.heap_alloc w3 o _ (Nat.lt_of_succ_le K3.out.2.2.2.2.2))).trans j4;clear jz k0 k1 k2 k3 k4 z3;go_wp2_with fail
            refine hK.out _ _ trivial (fun _=>?_);clear hK K
            try simp only [Act.put,stT,stZ,stS]
            refine rd2E 1 5 rfl rfl (fun K hK=>?_) (fun K hK=>?_)
            focus
             go_simp
             refine hK.out _ _ trivial (fun _=>?_);clear hK K
             try simp only [Act.put,stT,stZ,stS]
             refine rdE (rs:=[5]) ?_
            rotate_left
            focus
             go_simp
             refine hK.out _ _ trivial (fun _=>?_);clear hK K
             try simp only [Act.put,stT,stZ,stS]
             refine rdE (rs:=[1]) ?_
          all_goals
            refine AllReadyH.cons rfl (fun K hK=>?_) AllReadyH.nil
            go_simp
            refine hK.out _ _ trivial (fun _=>?_);clear hK K
            try simp only [Act.put,stT,stZ,stS]
            refine rd1E 6 rfl (fun K hK=>?_);refine step_append_lies _ (by rfl) _ _ 92 (by rfl) (w.heap.size+2) 151 i0 (.agg #[.string ⟨#[]⟩,.int .i64 0,.int .i64 0,.string ⟨#[]⟩,.slice none 0 0,.slice none 0 0]) 6 96 Tryz.underlying92 hi hz0 hz1 hz2 (by rfl) (by decide) _ acc.len xs (by rfl) (Yw (Yp9 HRM.out.1 HM3.out K2.out.2.2.2.2.1) ((Below.refl _ _).alloc (Nat.le_refl _) _)) _ 1 1 [.string nm,.int .i64 vk,.int .i64 vn,.string vs,.slice A3 vl.len c3,.slice A4 vm.len c4] (by rfl) (by rfl) (Yky _ _ _ _ _ _ _ _ (by first|rfl|(simp;done))) (by intro y hy;simp at hy;rcases hy with rfl|rfl|rfl|rfl|rfl|rfl<;>rfl) (by decide) (by unfold maxLen;omega) (by omega) (by have h1:=K2.out.2.2.2.2.2;have h2:=HM3.out.size;simp;omega) _ (by rfl) ?_;intro gg cap2 w4 hown4 hgrow hat hlt4;have HG4:=Hd hgrow;have HO4:=Hd hown4;have HT4:=Hd hat;have HL4:=Hd (Yl7 K3.out hgrow);obtain ⟨x0,x1,x2,x3,x4,xz⟩:=gvc HL4.out.2.1;have u3:=xz 4;clear hgrow hown4 hat xz j0 j1 j2 j3 j4 y3 jA;refine hK.out _ _ trivial (fun _=>?_);clear hK K;simp only [Act.put,List.setIfInBounds_toArray];refine rd1E 7 rfl (fun K hK=>?_)
            go_simp
            refine hK.out _ _ trivial (fun _=>?_);clear hK K
            try simp only [Act.put,stT,stZ,stS]
            refine rd1E 8 rfl (fun K hK=>?_)
            go_simp
            refine hK.out _ _ trivial (fun _=>?_);clear hK K
            try simp only [Act.put,stT,stZ,stS]
            refine wpAnyH_done (by kernel_rfl) ?_ _;go_wp2_with fail
            have hr0:=K2.out.2.2.2.2.1;have G5:=J0 HG4.out (r:=r) (fun b hb=>by have:=(HRM.out.1.lt b hb).1;omega);have R4:=(G5.1 _ _ (R3.out.1.below (blw _ _))).set (b:=w.heap.size+1) (i:=4) (v:=.slice (some ⟨gg,0,none⟩) (acc.len+1) cap2) (by omega);have D4:=(G5.2 ((D2.out.moved HM3.out).moved (Z0.of_below (blw _ _)))).set (b:=w.heap.size+1) (i:=4) (v:=.slice (some ⟨gg,0,none⟩) (acc.len+1) cap2) (by omega);have T4:=Yp5 (by have:=HNM.out;omega) (by omega) K2.out.2.2.2.2.2 HRM.out.1 HRM.out.2.1 HRM.out.2.2 HM3.out HVP.out HO4.out HG4.out HT4.out
            go_roundg g
            case measure=>omega
            case rel=>exact ⟨acc.snoc nm (.mk vk vn vs vl vm),tq2,_,by omega,by rw [At];omega,Za ⟨⟨V6 HL4.out.1 (by omega),heap_setCell_same _ _ 4 _ _ _ HL4.out.2.1,by rw [At];exact T4.moved Z0.set (by omega),HL4.out.2.2.put (Nat.le_succ _),hr0,by have h1:=K2.out.2.2.2.2.2;have h2:=HM3.out.size;have h3:=HG4.out.size;simp [World.setCell] at h3 ⊢;omega⟩,R4,D4,R3.out.2,HRE.out,by omega⟩⟩
end Go.Proofs.YtkmloefbkgcbkaaGreatDoor
