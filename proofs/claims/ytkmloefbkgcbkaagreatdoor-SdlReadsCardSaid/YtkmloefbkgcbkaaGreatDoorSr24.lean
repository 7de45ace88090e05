/- The landed definition of a schema. (gen_sddefn.py wrote it.) -/
import Derived.Test.YtkmloefbkgcbkaaGreatDoorSr23
set_option maxRecDepth 100000
set_option maxHeartbeats 8000000
namespace Go.Proofs.YtkmloefbkgcbkaaGreatDoor
open Go.RowKit
theorem Zzu {wd:ByteArray} {k:Int} (h:Yo wd=k) (h0 : ¬ Yo wd=0):k=1∨k=2∨k=3∨k=4∨k=5:=by
 subst h;unfold Yo at h0 ⊢
 split
 · exact .inl rfl
 · split
   · exact .inr (.inl rfl)
   · split
     · exact .inr (.inr (.inl rfl))
     · split
       · exact .inr (.inr (.inr (.inl rfl)))
       · split
         · exact .inr (.inr (.inr (.inr rfl)))
         · rename_i h1 h2 h3 h4 h5
           simp only [h1,h2,h3,h4,h5] at h0;exact absurd rfl h0
theorem It (d:Nat) (ts:List Tok) (r:Nat) (w:World) (hG:Yn ts) (hd:d≤16) (hR:Rd w r ts d) (hK:KRd r w):Calls Tryz.prog 25 #[.pointer (some ⟨r,0,none⟩)] w (Ca r d w (N9 Z9) (Ut d ts)):=by
 refine cQE (fun Q hQ=>?_);have HQ:=Hd hQ;have K0:=Hd (S0.start hR hK #[.int .i64 0,.string ⟨#[]⟩,.slice none 0 0,.slice none 0 0,.slice none 0 0,.slice none 0 0] 35);have G0:=Hd hG;clear hQ hR hK hG
 go_enter Tryz.func25,Tryz.ntmps25
 go_wp2_with fail
 refine (Yr r (ts) d _ K0.out.rd).mono ?_;intro e w1 h
 cases hn:Zg (ts) with
 | none =>
   rw [hn] at h;obtain ⟨rfl,m⟩:=h;exact ⟨rfl,HQ.out _ _ (per (by simp only [Ut,hn]) (K0.out.mv.trans m))⟩
 | some p =>
   obtain ⟨wd,tn1⟩:=p;rw [hn] at h;obtain ⟨rfl,rr,mm⟩:=h;have Nwd:=Hd (G0.out.name hn);have G2:=Hd (G0.out.sub (Zt hn).1);have E3:=Hd hn;have K4:=Hd (K0.out.next rr mm);clear rr mm hn;go_wp2_with fail
   refine (Zyr wd _).mono ?_;intro e wk h
   by_cases hk:Yo wd=0
   · rw [if_pos hk] at h
     obtain ⟨rfl,rfl⟩:=h;exact ⟨rfl,HQ.out _ _ (per (by simp only [Ut,E3.out,hk,if_true]) K4.out.mv)⟩
   rw [if_neg hk] at h;obtain ⟨rfl,rfl⟩:=h;have HK0:=Hd hk;obtain ⟨kk,hkk⟩:∃ z,Yo wd=z:=⟨_,rfl⟩;have HKK:=Hd hkk;rw [hkk];have HC:=Hd (Zzu hkk hk);have HKN:=Hd (show ¬ kk=0 from hkk ▸ hk);clear hk hkk;go_wp2_with fail
   have K5:=Hd (S1.make K4.out #[.int .i64 kk,.string ⟨#[]⟩,.slice none 0 0,.slice none 0 0,.slice none 0 0,.slice none 0 0] 35);refine (Yr r (tn1) d _ K5.out.rd).mono ?_;intro e w6 h
   cases hn:Zg (tn1) with
   | none =>
     rw [hn] at h;obtain ⟨rfl,m⟩:=h;exact ⟨rfl,HQ.out _ _ (per (by simp only [Ut,ite_self,E3.out,hn]) (K5.out.mv.trans m))⟩
   | some p =>
     obtain ⟨n,tn6⟩:=p;rw [hn] at h;obtain ⟨rfl,rr,mm⟩:=h;have Nn:=Hd (G2.out.name hn);have G7:=Hd (G2.out.sub (Zt hn).1);have E8:=Hd hn;have K9:=Hd (K5.out.next rr mm);clear rr mm hn;obtain ⟨y0,y1,y2,y3,y4,y5,yz⟩:=Zr K9.out.loc;have yf0:=yz 0;have yf1:=yz 1;have yf2:=yz 2;have yf3:=yz 3;have yf4:=yz 4;have yf5:=yz 5;clear yz
     go_upto_region 3 with fail
     clear y0 y1 y2 y3 y4 y5 yf0 yf1 yf2 yf3 yf4 yf5;have K10:Hid (S1 w r (w6.setCell ⟨w1.heap.size,1,none⟩ (.string n)) _ (w1.heap.size) (.cells #[.int .i64 kk,.string n,.slice none 0 0,.slice none 0 0,.slice none 0 0,.slice none 0 0] 35 (0,0)) _ d):=Hd (K9.out.put 1 (.string n));generalize (w6.setCell ⟨w1.heap.size,1,none⟩ (.string n))=wz11 at K10 ⊢;have HE:Hid (Ut d ts=Uk d kk n (tn6)):=Hd (by simp only [Ut,E3.out,E8.out,HKK.out,HKN.out,if_false]);have GQ:=G7;have KQ:=K10;refine Or.elim (show (kk=1∨kk=2)∨(kk=3∨kk=4∨kk=5) by have:=HC.out;omega) (fun h12=>?_) (fun h345=>?_)
     rotate_left
     rcases h345 with rfl|rfl|rfl
     · skip
       obtain ⟨y0,y1,y2,y3,y4,y5,yz⟩:=Zr KQ.out.loc;have yf0:=yz 0;have yf1:=yz 1;have yf2:=yz 2;have yf3:=yz 3;have yf4:=yz 4;have yf5:=yz 5;clear yz;go_wp2_with fail
       clear y0 y1 y2 y3 y4 y5 yf0 yf1 yf2 yf3 yf4 yf5;refine (Xa r tn6 d 1 eqB _ KQ.out.rd).mono ?_;intro e w301 h
       cases hb:atB 1 eqB tn6 with
       | false =>
         rw [hb] at h;simp only [Bool.false_eq_true,if_false] at h;obtain ⟨rfl,m⟩:=h;exact ⟨rfl,HQ.out _ _ (per (by simp only [Uk,(by decide : ¬ ((3:Int)=1∨(3:Int)=2)),HE.out,hb,if_true,if_false,Bool.false_eq_true]) (KQ.out.mv.trans m))⟩
       | true =>
         rw [hb] at h;simp only [if_true] at h;obtain ⟨rfl,rr,mm⟩:=h;have G302:=Hd (GQ.out.sub (Zn hb).1);have E303:=Hd hb;have K304:=Hd (KQ.out.next rr mm);clear rr mm hb;go_wp2_with fail
         refine (To Yk2 d (tn6.tail) r _ G302.out K304.out.rd K304.out.k).mono ?_;intro e w305 h
         cases hv:Xl Yk2 (tn6.tail) with
         | error x =>
           rw [hv] at h;obtain ⟨rfl,m⟩:=Ji h;exact ⟨rfl,HQ.out _ _ (per (by simp only [Uk,(by decide : ¬ ((3:Int)=1∨(3:Int)=2)),HE.out,E303.out,hv,if_true,if_false]) (K304.out.mv.trans m))⟩
         | ok p =>
           obtain ⟨l,tp305⟩:=p;rw [hv] at h;obtain ⟨⟨v,rfl,hl⟩,rr,mm⟩:=Uv h;obtain ⟨A4,kA4,rfl,hts⟩:=Us hl;have G306:=Hd (G302.out.sub (Ee hv).1);have K307:=Hd (K304.out.next rr mm);have O308:=Hd (Ov.of hts K304.out.blt);have E309:=Hd hv;clear rr mm hv hl hts h;obtain ⟨y0,y1,y2,y3,y4,y5,yz⟩:=Zr K307.out.loc;have yf0:=yz 0;have yf1:=yz 1;have yf2:=yz 2;have yf3:=yz 3;have yf4:=yz 4;have yf5:=yz 5;clear yz
           go_upto_region 19 with fail
           clear y0 y1 y2 y3 y4 y5 yf0 yf1 yf2 yf3 yf4 yf5;have K310:Hid (S1 w r (w305.setCell ⟨w1.heap.size,4,none⟩ (.slice A4 (Z5 Zd l).len kA4)) _ (w1.heap.size) (.cells #[.int .i64 3,.string n,.slice none 0 0,.slice none 0 0,.slice A4 (Z5 Zd l).len kA4,.slice none 0 0] 35 (0,0)) _ d):=Hd (K307.out.put 4 (.slice A4 (Z5 Zd l).len kA4));have O311:Hid (Ov (w1.heap.size) (w305.setCell ⟨w1.heap.size,4,none⟩ (.slice A4 (Z5 Zd l).len kA4)) _ _):=Hd (O308.out.put (i:=4) (v:=.slice A4 (Z5 Zd l).len kA4) (Nat.le_refl _));generalize (w305.setCell ⟨w1.heap.size,4,none⟩ (.slice A4 (Z5 Zd l).len kA4))=wz312 at K310 O311 ⊢;obtain ⟨y0,y1,y2,y3,y4,y5,yz⟩:=Zr K310.out.loc;have yf0:=yz 0;have yf1:=yz 1;have yf2:=yz 2;have yf3:=yz 3;have yf4:=yz 4;have yf5:=yz 5;clear yz;obtain ⟨x0,x1,x2,x3,x4,x5,xz⟩:=Zr K310.out.res;have xf0:=xz 0;have xf1:=xz 1;have xf2:=xz 2;have xf3:=xz 3;have xf4:=xz 4;have xf5:=xz 5;clear xz;go_wp2_with fail
           clear y0 y1 y2 y3 y4 y5 yf0 yf1 yf2 yf3 yf4 yf5 x0 x1 x2 x3 x4 x5 xf0 xf1 xf2 xf3 xf4 xf5;obtain ⟨f1,f2,f3⟩:=S1.fin (ys:=[.int .i64 0,.string ⟨#[]⟩,.slice none 0 0,.slice none 0 0,.slice none 0 0,.slice none 0 0]) K310.out [.int .i64 3,.string n,.slice none 0 0,.slice none 0 0,.slice A4 (Z5 Zd l).len kA4,.slice none 0 0] rfl;have Fpt:=O311.out.fin (w:=w) (Nat.le_of_lt K310.out.bl) [.int .i64 3,.string n,.slice none 0 0,.slice none 0 0,.slice A4 (Z5 Zd l).len kA4,.slice none 0 0];have FP:=HQ.out _ _ (Yy (a:=⟨3,n,[],[],l,[]⟩) (by simp only [Uk,(by decide : ¬ ((3:Int)=1∨(3:Int)=2)),HE.out,E303.out,E309.out,if_true,if_false]) ⟨[.int .i64 3,.string n,.slice none 0 0,.slice none 0 0,.slice A4 (Z5 Zd l).len kA4,.slice none 0 0],rfl,TS.int (TS.str Nn.out (TS.row (show TP _ _ (.row (Z5 Zd [])) _ from TP.none _ _) (TS.row (show TP _ _ (.row (Z5 Ze [])) _ from TP.none _ _) (TS.row Fpt (TS.row (show TP _ _ (.row (Z5 Zk [])) _ from TP.none _ _) (TS.nil _ _))))))⟩ f2 f3);exact Y6 rfl rfl rfl f1 Tryz.underlying35 ⟨_,rfl⟩ (by kernel_rfl) FP
     · skip
       obtain ⟨y0,y1,y2,y3,y4,y5,yz⟩:=Zr KQ.out.loc;have yf0:=yz 0;have yf1:=yz 1;have yf2:=yz 2;have yf3:=yz 3;have yf4:=yz 4;have yf5:=yz 5;clear yz;go_wp2_with fail
       clear y0 y1 y2 y3 y4 y5 yf0 yf1 yf2 yf3 yf4 yf5;refine (Xa r tn6 d 1 omB _ KQ.out.rd).mono ?_;intro e w401 h
       cases hb:atB 1 omB tn6 with
       | false =>
         rw [hb] at h;simp only [Bool.false_eq_true,if_false] at h;obtain ⟨rfl,m⟩:=h;exact ⟨rfl,HQ.out _ _ (per (by simp only [Uk,(by decide : ¬ ((4:Int)=1∨(4:Int)=2)),(by decide : ¬ (4:Int)=3),HE.out,hb,if_true,if_false,Bool.false_eq_true]) (KQ.out.mv.trans m))⟩
       | true =>
         rw [hb] at h;simp only [if_true] at h;obtain ⟨rfl,rr,mm⟩:=h;have G402:=Hd (GQ.out.sub (Zn hb).1);have E403:=Hd hb;have K404:=Hd (KQ.out.next rr mm);clear rr mm hb;go_wp2_with fail
         refine (Zy7 cmB enR (fun _ _ _ h=>Zz1 h) r d (tn6.tail) _ (fun tq wx g _ hx hk _=>Yno d tq r wx g hd hx hk) G402.out K404.out.rd K404.out.k trivial).mono ?_;intro e w405 h
         cases hv:I7 enR V8 cmB (((tn6.tail)).length+1) [] (tn6.tail) with
         | error x =>
           rw [hv] at h;obtain ⟨rfl,m⟩:=Ji h;exact ⟨rfl,HQ.out _ _ (per (by simp only [Uk,(by decide : ¬ ((4:Int)=1∨(4:Int)=2)),(by decide : ¬ (4:Int)=3),HE.out,E403.out,hv,if_true,if_false]) (K404.out.mv.trans m))⟩
         | ok p =>
           obtain ⟨l,tp405⟩:=p;rw [hv] at h;obtain ⟨⟨v,rfl,hl⟩,rr,mm⟩:=Uv h;obtain ⟨A4,kA4,rfl,hts⟩:=Us hl;have G406:=Hd (G402.out.sub (F0 (fun _ _ _ h=>Zz1 h) _ _ _ _ _ hv).1);have K407:=Hd (K404.out.next rr mm);have O408:=Hd (Ov.of hts K404.out.blt);have E409:=Hd hv;clear rr mm hv hl hts h;obtain ⟨y0,y1,y2,y3,y4,y5,yz⟩:=Zr K407.out.loc;have yf0:=yz 0;have yf1:=yz 1;have yf2:=yz 2;have yf3:=yz 3;have yf4:=yz 4;have yf5:=yz 5;clear yz
           go_upto_region 19 with fail
           clear y0 y1 y2 y3 y4 y5 yf0 yf1 yf2 yf3 yf4 yf5;have K410:Hid (S1 w r (w405.setCell ⟨w1.heap.size,4,none⟩ (.slice A4 (Z5 Zd l).len kA4)) _ (w1.heap.size) (.cells #[.int .i64 4,.string n,.slice none 0 0,.slice none 0 0,.slice A4 (Z5 Zd l).len kA4,.slice none 0 0] 35 (0,0)) _ d):=Hd (K407.out.put 4 (.slice A4 (Z5 Zd l).len kA4));have O411:Hid (Ov (w1.heap.size) (w405.setCell ⟨w1.heap.size,4,none⟩ (.slice A4 (Z5 Zd l).len kA4)) _ _):=Hd (O408.out.put (i:=4) (v:=.slice A4 (Z5 Zd l).len kA4) (Nat.le_refl _));generalize (w405.setCell ⟨w1.heap.size,4,none⟩ (.slice A4 (Z5 Zd l).len kA4))=wz412 at K410 O411 ⊢;obtain ⟨y0,y1,y2,y3,y4,y5,yz⟩:=Zr K410.out.loc;have yf0:=yz 0;have yf1:=yz 1;have yf2:=yz 2;have yf3:=yz 3;have yf4:=yz 4;have yf5:=yz 5;clear yz;obtain ⟨x0,x1,x2,x3,x4,x5,xz⟩:=Zr K410.out.res;have xf0:=xz 0;have xf1:=xz 1;have xf2:=xz 2;have xf3:=xz 3;have xf4:=xz 4;have xf5:=xz 5;clear xz;go_wp2_with fail
           clear y0 y1 y2 y3 y4 y5 yf0 yf1 yf2 yf3 yf4 yf5 x0 x1 x2 x3 x4 x5 xf0 xf1 xf2 xf3 xf4 xf5;obtain ⟨f1,f2,f3⟩:=S1.fin (ys:=[.int .i64 0,.string ⟨#[]⟩,.slice none 0 0,.slice none 0 0,.slice none 0 0,.slice none 0 0]) K410.out [.int .i64 4,.string n,.slice none 0 0,.slice none 0 0,.slice A4 (Z5 Zd l).len kA4,.slice none 0 0] rfl;have Fpt:=O411.out.fin (w:=w) (Nat.le_of_lt K410.out.bl) [.int .i64 4,.string n,.slice none 0 0,.slice none 0 0,.slice A4 (Z5 Zd l).len kA4,.slice none 0 0];have FP:=HQ.out _ _ (Yy (a:=⟨4,n,[],[],l,[]⟩) (by simp only [Uk,(by decide : ¬ ((4:Int)=1∨(4:Int)=2)),(by decide : ¬ (4:Int)=3),HE.out,E403.out,E409.out,if_true,if_false]) ⟨[.int .i64 4,.string n,.slice none 0 0,.slice none 0 0,.slice A4 (Z5 Zd l).len kA4,.slice none 0 0],rfl,TS.int (TS.str Nn.out (TS.row (show TP _ _ (.row (Z5 Zd [])) _ from TP.none _ _) (TS.row (show TP _ _ (.row (Z5 Ze [])) _ from TP.none _ _) (TS.row Fpt (TS.row (show TP _ _ (.row (Z5 Zk [])) _ from TP.none _ _) (TS.nil _ _))))))⟩ f2 f3);exact Y6 rfl rfl rfl f1 Tryz.underlying35 ⟨_,rfl⟩ (by kernel_rfl) FP
     · skip
       obtain ⟨y0,y1,y2,y3,y4,y5,yz⟩:=Zr KQ.out.loc;have yf0:=yz 0;have yf1:=yz 1;have yf2:=yz 2;have yf3:=yz 3;have yf4:=yz 4;have yf5:=yz 5;clear yz;go_wp2_with fail
       clear y0 y1 y2 y3 y4 y5 yf0 yf1 yf2 yf3 yf4 yf5;refine (Xa r tn6 d 1 omB _ KQ.out.rd).mono ?_;intro e w501 h
       cases hb:atB 1 omB tn6 with
       | false =>
         rw [hb] at h;simp only [Bool.false_eq_true,if_false] at h;obtain ⟨rfl,m⟩:=h;exact ⟨rfl,HQ.out _ _ (per (by simp only [Uk,(by decide : ¬ ((5:Int)=1∨(5:Int)=2)),(by decide : ¬ (5:Int)=3),(by decide : ¬ (5:Int)=4),HE.out,hb,if_false,Bool.false_eq_true]) (KQ.out.mv.trans m))⟩
       | true =>
         rw [hb] at h;simp only [if_true] at h;obtain ⟨rfl,rr,mm⟩:=h;have G502:=Hd (GQ.out.sub (Zn hb).1);have E503:=Hd hb;have K504:=Hd (KQ.out.next rr mm);clear rr mm hb;go_wp2_with fail
         refine (Pi cmB (W4 d) (fun _ _ _ h=>Li h) r d (tn6.tail) _ (fun tq wx g _ hx hk _=>Ps d tq r wx g hd hx hk) G502.out K504.out.rd K504.out.k trivial).mono ?_;intro e w505 h
         cases hv:I7 (W4 d) V8 cmB (((tn6.tail)).length+1) [] (tn6.tail) with
         | error x =>
           rw [hv] at h;obtain ⟨rfl,m⟩:=Ji h;exact ⟨rfl,HQ.out _ _ (per (by simp only [Uk,(by decide : ¬ ((5:Int)=1∨(5:Int)=2)),(by decide : ¬ (5:Int)=3),(by decide : ¬ (5:Int)=4),HE.out,E503.out,hv,if_true,if_false]) (K504.out.mv.trans m))⟩
         | ok p =>
           obtain ⟨l,tp505⟩:=p;rw [hv] at h;obtain ⟨⟨v,rfl,hl⟩,rr,mm⟩:=Uv h;obtain ⟨A5,kA5,rfl,hts⟩:=Us hl;have G506:=Hd (G502.out.sub (F0 (fun _ _ _ h=>Li h) _ _ _ _ _ hv).1);have K507:=Hd (K504.out.next rr mm);have O508:=Hd (Ov.of hts K504.out.blt);have E509:=Hd hv;clear rr mm hv hl hts h;obtain ⟨y0,y1,y2,y3,y4,y5,yz⟩:=Zr K507.out.loc;have yf0:=yz 0;have yf1:=yz 1;have yf2:=yz 2;have yf3:=yz 3;have yf4:=yz 4;have yf5:=yz 5;clear yz
           go_upto_region 19 with fail
           clear y0 y1 y2 y3 y4 y5 yf0 yf1 yf2 yf3 yf4 yf5;have K510:Hid (S1 w r (w505.setCell ⟨w1.heap.size,5,none⟩ (.slice A5 (Z5 Zk l).len kA5)) _ (w1.heap.size) (.cells #[.int .i64 5,.string n,.slice none 0 0,.slice none 0 0,.slice none 0 0,.slice A5 (Z5 Zk l).len kA5] 35 (0,0)) _ d):=Hd (K507.out.put 5 (.slice A5 (Z5 Zk l).len kA5));have O511:Hid (Ov (w1.heap.size) (w505.setCell ⟨w1.heap.size,5,none⟩ (.slice A5 (Z5 Zk l).len kA5)) _ _):=Hd (O508.out.put (i:=5) (v:=.slice A5 (Z5 Zk l).len kA5) (Nat.le_refl _));generalize (w505.setCell ⟨w1.heap.size,5,none⟩ (.slice A5 (Z5 Zk l).len kA5))=wz512 at K510 O511 ⊢;obtain ⟨y0,y1,y2,y3,y4,y5,yz⟩:=Zr K510.out.loc;have yf0:=yz 0;have yf1:=yz 1;have yf2:=yz 2;have yf3:=yz 3;have yf4:=yz 4;have yf5:=yz 5;clear yz;obtain ⟨x0,x1,x2,x3,x4,x5,xz⟩:=Zr K510.out.res;have xf0:=xz 0;have xf1:=xz 1;have xf2:=xz 2;have xf3:=xz 3;have xf4:=xz 4;have xf5:=xz 5;clear xz;go_wp2_with fail
           clear y0 y1 y2 y3 y4 y5 yf0 yf1 yf2 yf3 yf4 yf5 x0 x1 x2 x3 x4 x5 xf0 xf1 xf2 xf3 xf4 xf5;obtain ⟨f1,f2,f3⟩:=S1.fin (ys:=[.int .i64 0,.string ⟨#[]⟩,.slice none 0 0,.slice none 0 0,.slice none 0 0,.slice none 0 0]) K510.out [.int .i64 5,.string n,.slice none 0 0,.slice none 0 0,.slice none 0 0,.slice A5 (Z5 Zk l).len kA5] rfl;have Fpm:=O511.out.fin (w:=w) (Nat.le_of_lt K510.out.bl) [.int .i64 5,.string n,.slice none 0 0,.slice none 0 0,.slice none 0 0,.slice A5 (Z5 Zk l).len kA5];have FP:=HQ.out _ _ (Yy (a:=⟨5,n,[],[],[],l⟩) (by simp only [Uk,(by decide : ¬ ((5:Int)=1∨(5:Int)=2)),(by decide : ¬ (5:Int)=3),(by decide : ¬ (5:Int)=4),HE.out,E503.out,E509.out,if_true,if_false]) ⟨[.int .i64 5,.string n,.slice none 0 0,.slice none 0 0,.slice none 0 0,.slice A5 (Z5 Zk l).len kA5],rfl,TS.int (TS.str Nn.out (TS.row (show TP _ _ (.row (Z5 Zd [])) _ from TP.none _ _) (TS.row (show TP _ _ (.row (Z5 Ze [])) _ from TP.none _ _) (TS.row (show TP _ _ (.row (Z5 Zd [])) _ from TP.none _ _) (TS.row Fpm (TS.nil _ _))))))⟩ f2 f3);exact Y6 rfl rfl rfl f1 Tryz.underlying35 ⟨_,rfl⟩ (by kernel_rfl) FP
     refine Or.elim h12 (fun hk1=>?_) (fun hk1=>?_)
     focus
       obtain ⟨y0,y1,y2,y3,y4,y5,yz⟩:=Zr KQ.out.loc;have yf0:=yz 0;have yf1:=yz 1;have yf2:=yz 2;have yf3:=yz 3;have yf4:=yz 4;have yf5:=yz 5;clear yz;have hd1:kk=1:=hk1;subst hd1;go_wp2_with fail
       clear y0 y1 y2 y3 y4 y5 yf0 yf1 yf2 yf3 yf4 yf5;obtain ⟨kk,hkk⟩:∃ z:Int,z=1:=⟨_,rfl⟩;have h12:Hid (kk=1∨kk=2):=Hd (by omega);have HE:Hid (Ut d ts=Uk d kk n (tn6)):=by rw [hkk];exact HE
       have KQ:Hid (S1 w r wz11 (.cells #[.int .i64 0,.string ⟨#[]⟩,.slice none 0 0,.slice none 0 0,.slice none 0 0,.slice none 0 0] 35 (0,0)) (w1.heap.size) (.cells #[.int .i64 kk,.string n,.slice none 0 0,.slice none 0 0,.slice none 0 0,.slice none 0 0] 35 (0,0)) (tn6) d):=by rw [hkk];exact KQ
       clear hkk
     rotate_left
     focus
       obtain ⟨y0,y1,y2,y3,y4,y5,yz⟩:=Zr KQ.out.loc;have yf0:=yz 0;have yf1:=yz 1;have yf2:=yz 2;have yf3:=yz 3;have yf4:=yz 4;have yf5:=yz 5;clear yz;have hd1:kk=2:=hk1;subst hd1;go_wp2_with fail
       clear y0 y1 y2 y3 y4 y5 yf0 yf1 yf2 yf3 yf4 yf5;obtain ⟨kk,hkk⟩:∃ z:Int,z=2:=⟨_,rfl⟩;have h12:Hid (kk=1∨kk=2):=Hd (by omega);have HE:Hid (Ut d ts=Uk d kk n (tn6)):=by rw [hkk];exact HE
       have KQ:Hid (S1 w r wz11 (.cells #[.int .i64 0,.string ⟨#[]⟩,.slice none 0 0,.slice none 0 0,.slice none 0 0,.slice none 0 0] 35 (0,0)) (w1.heap.size) (.cells #[.int .i64 kk,.string n,.slice none 0 0,.slice none 0 0,.slice none 0 0,.slice none 0 0] 35 (0,0)) (tn6) d):=by rw [hkk];exact KQ
       clear hkk
     all_goals
       refine (Yg r tn6 d 2 Gl _ KQ.out.rd).mono ?_;intro e w601 h;refine Or.elim (Bool.eq_false_or_eq_true (atB 2 Gl (tn6))).symm (fun hb=>?_) (fun hb=>?_)
       focus
         rw [hb] at h;obtain ⟨rfl,rr,mm⟩:=h;rw [Uh hb] at rr;have E602:=Hd hb;have K603:=Hd (KQ.out.next rr mm);clear rr mm hb;go_wp2_with fail
         have HF:Hid (Zw (tn6)=.ok ([],tn6)):=Hd (by simp only [Zw,E602.out,if_false,Bool.false_eq_true]);obtain ⟨VS,hVS⟩:∃ zz:List ByteArray,[]=zz:=⟨_,rfl⟩;obtain ⟨T2,hT2⟩:∃ zz:List Tok,tn6=zz:=⟨_,rfl⟩;obtain ⟨AS,nS,kS,hSV⟩:∃ A n k,.slice none 0 0=Value.slice A n k:=⟨_,_,_,rfl⟩;have HF:Hid (Zw (tn6)=.ok (VS,T2)):=by rw [← hVS,← hT2];exact HF
         have KJ2:Hid (S1 w r w601 (.cells #[.int .i64 0,.string ⟨#[]⟩,.slice none 0 0,.slice none 0 0,.slice none 0 0,.slice none 0 0] 35 (0,0)) (w1.heap.size) (.cells #[.int .i64 kk,.string n,.slice AS nS kS,.slice none 0 0,.slice none 0 0,.slice none 0 0] 35 (0,0)) T2 d):=by rw [← hT2,← hSV];exact K603
         have GJ2:Hid (Yn T2):=by rw [← hT2];exact GQ
         have OVJ:Hid (Ov (w1.heap.size) w601 (.row (Z5 Zd VS)) (.slice AS nS kS)):=by rw [← hVS,← hSV];exact Hd (TP.none _ _)
         clear hVS hT2 hSV K603;generalize w601=wq at KJ2 OVJ ⊢
       rotate_left
       focus
         rw [hb] at h;obtain ⟨rfl,rr,mm⟩:=h;rw [Jq hb] at rr;have G604:=Hd (GQ.out.sub (Zn hb).1);have E605:=Hd hb;have K606:=Hd (KQ.out.next rr mm);clear rr mm hb;go_wp2_with fail
         refine (To Yi1 d (tn6.tail) r _ G604.out K606.out.rd K606.out.k).mono ?_;intro e w607 h;rcases hv:Xl Yi1 ((tn6.tail)) with x|p
         · skip
           rw [hv] at h;obtain ⟨rfl,m⟩:=Ji h;exact ⟨rfl,HQ.out _ _ (per (by simp only [Uk,Zw,h12.out,HE.out,E605.out,hv,if_true]) (K606.out.mv.trans m))⟩
         obtain ⟨fs,tp607⟩:=p;rw [hv] at h;obtain ⟨⟨v,rfl,hl⟩,rr,mm⟩:=Uv h;obtain ⟨A2,kA2,rfl,hts⟩:=Us hl;have G608:=Hd (G604.out.sub (Ee hv).1);have K609:=Hd (K606.out.next rr mm);have O610:=Hd (Ov.of hts K606.out.blt);have E611:=Hd hv;clear rr mm hv hl hts h;obtain ⟨y0,y1,y2,y3,y4,y5,yz⟩:=Zr K609.out.loc;have yf0:=yz 0;have yf1:=yz 1;have yf2:=yz 2;have yf3:=yz 3;have yf4:=yz 4;have yf5:=yz 5;clear yz;go_wp2_with fail
         clear y0 y1 y2 y3 y4 y5 yf0 yf1 yf2 yf3 yf4 yf5;have K612:Hid (S1 w r (w607.setCell ⟨w1.heap.size,2,none⟩ (.slice A2 (Z5 Zd fs).len kA2)) _ (w1.heap.size) (.cells #[.int .i64 kk,.string n,.slice A2 (Z5 Zd fs).len kA2,.slice none 0 0,.slice none 0 0,.slice none 0 0] 35 (0,0)) _ d):=Hd (K609.out.put 2 (.slice A2 (Z5 Zd fs).len kA2));have O613:Hid (Ov (w1.heap.size) (w607.setCell ⟨w1.heap.size,2,none⟩ (.slice A2 (Z5 Zd fs).len kA2)) _ _):=Hd (O610.out.put (i:=2) (v:=.slice A2 (Z5 Zd fs).len kA2) (Nat.le_refl _));generalize (w607.setCell ⟨w1.heap.size,2,none⟩ (.slice A2 (Z5 Zd fs).len kA2))=wz614 at K612 O613 ⊢;have HF:Hid (Zw (tn6)=.ok (fs,tp607)):=Hd (by simp only [Zw,E605.out,E611.out,if_true]);obtain ⟨VS,hVS⟩:∃ zz:List ByteArray,fs=zz:=⟨_,rfl⟩;obtain ⟨T2,hT2⟩:∃ zz:List Tok,tp607=zz:=⟨_,rfl⟩;obtain ⟨AS,nS,kS,hSV⟩:∃ A n k,.slice A2 (Z5 Zd fs).len kA2=Value.slice A n k:=⟨_,_,_,rfl⟩;have HF:Hid (Zw (tn6)=.ok (VS,T2)):=by rw [← hVS,← hT2];exact HF
         have KJ2:Hid (S1 w r wz614 (.cells #[.int .i64 0,.string ⟨#[]⟩,.slice none 0 0,.slice none 0 0,.slice none 0 0,.slice none 0 0] 35 (0,0)) (w1.heap.size) (.cells #[.int .i64 kk,.string n,.slice AS nS kS,.slice none 0 0,.slice none 0 0,.slice none 0 0] 35 (0,0)) T2 d):=by rw [← hT2,← hSV];exact K612
         have GJ2:Hid (Yn T2):=by rw [← hT2];exact G608
         have OVJ:Hid (Ov (w1.heap.size) wz614 (.row (Z5 Zd VS)) (.slice AS nS kS)):=by rw [← hVS,← hSV];exact O613
         clear hVS hT2 hSV K612;generalize wz614=wq at KJ2 OVJ ⊢
       all_goals
         refine (Xa r T2 d 1 omB _ KJ2.out.rd).mono ?_;intro e w701 h
         cases hb:atB 1 omB T2 with
         | false =>
           rw [hb] at h;simp only [Bool.false_eq_true,if_false] at h;obtain ⟨rfl,m⟩:=h;exact ⟨rfl,HQ.out _ _ (per (by simp only [Uk,h12.out,HE.out,HF.out,hb,if_true,if_false,Bool.false_eq_true]) (KJ2.out.mv.trans m))⟩
         | true =>
           rw [hb] at h;simp only [if_true] at h;obtain ⟨rfl,rr,mm⟩:=h;have G702:=Hd (GJ2.out.sub (Zn hb).1);have E703:=Hd hb;have K704:=Hd (KJ2.out.next rr mm);have O705:=Hd (OVJ.out.next mm KJ2.out.rb);clear rr mm hb;go_wp2_with fail
           refine (Zvd cmB (fdR d) (fun _ _ _ h=>Nu h) r d (T2.tail) _ (fun tq wx g _ hx hk _=>Zyd d tq r wx g hd hx hk) G702.out K704.out.rd K704.out.k trivial).mono ?_;intro e w706 h
           cases hv:I7 (fdR d) V8 cmB (((T2.tail)).length+1) [] (T2.tail) with
           | error x =>
             rw [hv] at h;obtain ⟨rfl,m⟩:=Ji h;exact ⟨rfl,HQ.out _ _ (per (by simp only [Uk,h12.out,HE.out,HF.out,E703.out,hv,if_true]) (K704.out.mv.trans m))⟩
           | ok p =>
             obtain ⟨l,tp706⟩:=p;rw [hv] at h;obtain ⟨⟨v,rfl,hl⟩,rr,mm⟩:=Uv h;obtain ⟨A3,kA3,rfl,hts⟩:=Us hl;have G707:=Hd (G702.out.sub (F0 (fun _ _ _ h=>Nu h) _ _ _ _ _ hv).1);have K708:=Hd (K704.out.next rr mm);have O709:=Hd (O705.out.next mm K704.out.rb);have O710:=Hd (Ov.of hts K704.out.blt);have E711:=Hd hv;clear rr mm hv hl hts h;obtain ⟨y0,y1,y2,y3,y4,y5,yz⟩:=Zr K708.out.loc;have yf0:=yz 0;have yf1:=yz 1;have yf2:=yz 2;have yf3:=yz 3;have yf4:=yz 4;have yf5:=yz 5;clear yz
             go_upto_region 19 with fail
             clear y0 y1 y2 y3 y4 y5 yf0 yf1 yf2 yf3 yf4 yf5;have K712:Hid (S1 w r (w706.setCell ⟨w1.heap.size,3,none⟩ (.slice A3 (Z5 Ze l).len kA3)) _ (w1.heap.size) (.cells #[.int .i64 kk,.string n,.slice AS nS kS,.slice A3 (Z5 Ze l).len kA3,.slice none 0 0,.slice none 0 0] 35 (0,0)) _ d):=Hd (K708.out.put 3 (.slice A3 (Z5 Ze l).len kA3));have O713:Hid (Ov (w1.heap.size) (w706.setCell ⟨w1.heap.size,3,none⟩ (.slice A3 (Z5 Ze l).len kA3)) _ _):=Hd (O709.out.put (i:=3) (v:=.slice A3 (Z5 Ze l).len kA3) (Nat.le_refl _));have O714:Hid (Ov (w1.heap.size) (w706.setCell ⟨w1.heap.size,3,none⟩ (.slice A3 (Z5 Ze l).len kA3)) _ _):=Hd (O710.out.put (i:=3) (v:=.slice A3 (Z5 Ze l).len kA3) (Nat.le_refl _));generalize (w706.setCell ⟨w1.heap.size,3,none⟩ (.slice A3 (Z5 Ze l).len kA3))=wz715 at K712 O713 O714 ⊢;obtain ⟨y0,y1,y2,y3,y4,y5,yz⟩:=Zr K712.out.loc;have yf0:=yz 0;have yf1:=yz 1;have yf2:=yz 2;have yf3:=yz 3;have yf4:=yz 4;have yf5:=yz 5;clear yz;obtain ⟨x0,x1,x2,x3,x4,x5,xz⟩:=Zr K712.out.res;have xf0:=xz 0;have xf1:=xz 1;have xf2:=xz 2;have xf3:=xz 3;have xf4:=xz 4;have xf5:=xz 5;clear xz;go_wp2_with fail
             clear y0 y1 y2 y3 y4 y5 yf0 yf1 yf2 yf3 yf4 yf5 x0 x1 x2 x3 x4 x5 xf0 xf1 xf2 xf3 xf4 xf5;obtain ⟨f1,f2,f3⟩:=S1.fin (ys:=[.int .i64 0,.string ⟨#[]⟩,.slice none 0 0,.slice none 0 0,.slice none 0 0,.slice none 0 0]) K712.out [.int .i64 kk,.string n,.slice AS nS kS,.slice A3 (Z5 Ze l).len kA3,.slice none 0 0,.slice none 0 0] rfl;have Ffs:=O713.out.fin (w:=w) (Nat.le_of_lt K712.out.bl) [.int .i64 kk,.string n,.slice AS nS kS,.slice A3 (Z5 Ze l).len kA3,.slice none 0 0,.slice none 0 0];have Ffl:=O714.out.fin (w:=w) (Nat.le_of_lt K712.out.bl) [.int .i64 kk,.string n,.slice AS nS kS,.slice A3 (Z5 Ze l).len kA3,.slice none 0 0,.slice none 0 0];have FP:=HQ.out _ _ (Yy (a:=⟨kk,n,VS,l,[],[]⟩) (by simp only [Uk,h12.out,HE.out,HF.out,E703.out,E711.out,if_true]) ⟨[.int .i64 kk,.string n,.slice AS nS kS,.slice A3 (Z5 Ze l).len kA3,.slice none 0 0,.slice none 0 0],rfl,TS.int (TS.str Nn.out (TS.row Ffs (TS.row Ffl (TS.row (show TP _ _ (.row (Z5 Zd [])) _ from TP.none _ _) (TS.row (show TP _ _ (.row (Z5 Zk [])) _ from TP.none _ _) (TS.nil _ _))))))⟩ f2 f3);exact Y6 rfl rfl rfl f1 Tryz.underlying35 ⟨_,rfl⟩ (by kernel_rfl) FP
end Go.Proofs.YtkmloefbkgcbkaaGreatDoor
