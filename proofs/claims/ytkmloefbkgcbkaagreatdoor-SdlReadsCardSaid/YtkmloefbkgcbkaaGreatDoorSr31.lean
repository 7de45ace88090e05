/- The document's reader of types. -/
import Derived.Test.YtkmloefbkgcbkaaGreatDoorSr30
import Derived.Test.YtkmloefbkgcbkaaGreatDoorSr29
import Derived.Deep.SlicePairs
import Derived.Lib.TrimUEq
set_option maxRecDepth 100000
set_option maxHeartbeats 4000000
namespace Go.Proofs.YtkmloefbkgcbkaaGreatDoor
open Go.RowKit
variable {nT:Nat}
def Nd:Rdr Unit:=fun ts=>.ok ((),ts)
theorem Yf (S:StP):Xb (Zb Nd S)=S:=by rcases S with y|ts<;>rfl
theorem Vv {α:Type} {f:Unit→α} {S:StP} {a:α} {ts:List Tok} (h:F1 f (Zb Nd S)=.ok (a,ts)):S=.ok ts∧a=f ():=by
 rcases S with y|us
 · cases h
 · have:=Except.ok.inj h
   obtain ⟨h1,h2⟩:=Prod.mk.inj this;exact ⟨by rw [← h2],h1.symm⟩
theorem Zxl {n:ByteArray} {l m:Nat} {S:StP} (h:isS 1 bB S=true):Zb (Dc n l m) S=F1 (fun _=>(n,l,m ||| 1)) (Zb Nd (tkS bB S)):=by
 obtain ⟨t,ts,rfl,h2⟩:=Xr h;have h1:atB 1 bB (t :: ts)=true:=h;rw [h2];simp only [Zb,Dc,ifR,h1,if_true,Gk,List.tail_cons]
 rfl
theorem Yfd {n:ByteArray} {l m:Nat} {S:StP} (h:isS 1 bB S=false):Zb (Dc n l m) S=F1 (fun _=>(n,l,m)) (Zb Nd S):=by
 rcases S with y|ts
 · rfl
 · have h1:atB 1 bB ts=false:=h
   simp only [Zb,Dc,ifR,h1,Bool.false_eq_true,if_false]
   rfl
theorem Ycu {left:Nat} {S:StP} (h:isS 1 oB S=false):Zb (Zj left) S=Zb (Dc (nmV S) 0 0) (nmS S):=by
 rcases S with y|ts
 · rfl
 · have h1:atB 1 oB ts=false:=h
   have hx:Zj left ts=nmR (fun n=>Dc n 0 0) (Ga 2) ts:=by
    cases left with
    | zero=>rw [Cf];simp only [ifR,h1,Bool.false_eq_true,if_false]
    | succ k=>rw [Dn];simp only [ifR,h1,Bool.false_eq_true,if_false]
   show Zj left ts=_;rw [hx];simp only [nmR,nmS,nmV]
   cases Zg ts<;>rfl
theorem Ycc {S:StP} (h:isS 1 oB S=true):Zb (Zj 0) S=.error 4:=by
 obtain ⟨t,ts,rfl,_⟩:=Xr h;have h1:atB 1 oB (t :: ts)=true:=h
 show Zj 0 (t :: ts)=_;rw [Cf];simp only [ifR,h1,if_true]
 rfl
theorem Ydf {left:Nat} {S:StP} (h:isS 1 oB S=true):Zb (Zj (left+1)) S=Zb (Dc (Ul (eB,0,0) (Zb (Zj left) (tkS oB S))).1 ((Ul (eB,0,0) (Zb (Zj left) (tkS oB S))).2.1+1) (2*(Ul (eB,0,0) (Zb (Zj left) (tkS oB S))).2.2)) (tkS cB (Xb (Zb (Zj left) (tkS oB S)))):=by
 obtain ⟨t,ts,rfl,h2⟩:=Xr h;have h1:atB 1 oB (t :: ts)=true:=h;rw [h2]
 show Zj (left+1) (t :: ts)=_;rw [Dn];simp only [ifR,h1,if_true,List.tail_cons,Ym,Zb]
 cases Zj left ts with
 | error y=>rfl
 | ok a =>
   simp only [Xb,Ul]
   cases hc:atB 1 cB a.2 with
   | false=>rw [Zzc (show isS 1 cB (.ok a.2)=false from hc)];rfl
   | true =>
     have e1:tkS cB (.ok a.2)=.ok a.2.tail:=by
      show (if atB 1 cB a.2=true then _ else _)=_;rw [if_pos hc]
     rw [e1];rfl
theorem S5 {n:ByteArray} {l m:Nat} {ts:List Tok} (h:m < 2 ^ (l+1)):(Ui n l m ts).1.2.1=l∧(Ui n l m ts).1.2.2 < 2 ^ (l+1):=by
 unfold Ui
 split
 · refine ⟨rfl,?_⟩
   show m ||| 1 < _;rw [Yk1];rw [Nat.pow_succ] at h ⊢;omega
 · exact ⟨rfl,h⟩
theorem Ym9:∀ (left:Nat) (ts:List Tok) (t:ByteArray × Nat × Nat) (r:List Tok),Zj left ts=.ok (t,r)→t.2.1≤left∧t.2.2 < 2 ^ (t.2.1+1):=by
 intro left
 induction left with
 | zero =>
   intro ts t r h;rw [Cf] at h;simp only [ifR,nmR] at h
   split at h
   · cases h
   · cases hn:Zg ts with
     | none=>rw [hn] at h;cases h
     | some a =>
       rw [hn] at h;simp only at h;rw [Ew] at h;have h:=Except.ok.inj h;obtain ⟨b1,b2⟩:=S5 (n:=a.1) (l:=0) (m:=0) (ts:=a.2) (by decide);rw [h] at b1 b2;exact ⟨by rw [b1];exact Nat.le_refl _,by rw [b1];exact b2⟩
 | succ k ih =>
   intro ts t r h;rw [Dn] at h;simp only [ifR,nmR,Ym] at h
   split at h
   · cases ht:Zj k ts.tail with
     | error y=>rw [ht] at h;cases h
     | ok p =>
       rw [ht] at h;simp only at h
       split at h
       · obtain ⟨i1,i2⟩:=ih _ p.1 p.2 ht
         rw [Ew] at h;have h:=Except.ok.inj h;obtain ⟨b1,b2⟩:=S5 (n:=p.1.1) (l:=p.1.2.1+1) (m:=2*p.1.2.2) (ts:=p.2.tail) (by rw [Nat.pow_succ];omega);rw [h] at b1 b2;exact ⟨by rw [b1];omega,by rw [b1];exact b2⟩
       · cases h
   · cases hn:Zg ts with
     | none=>rw [hn] at h;cases h
     | some a =>
       rw [hn] at h;simp only at h;rw [Ew] at h;have h:=Except.ok.inj h;obtain ⟨b1,b2⟩:=S5 (n:=a.1) (l:=0) (m:=0) (ts:=a.2) (by decide);rw [h] at b1 b2;exact ⟨by rw [b1];exact Nat.zero_le _,by rw [b1];exact b2⟩
abbrev tyZ:List Value:=[.string ⟨#[]⟩,.int .i64 0,.int .i64 0]
theorem Ya {w:World} {b:Nat} {z0 z1 z2:Value} {t:TypeId} (h:w.heap[b]? = some (.cells #[z0,z1,z2] t (0,0))):w.cell? ⟨b,0,none⟩=some z0∧w.cell? ⟨b,1,none⟩=some z1∧w.cell? ⟨b,2,none⟩=some z2∧∀ i,w.frozen? ⟨b,i,none⟩=false:=by
 refine ⟨?_,?_,?_,?_⟩<;>simp [World.cell?,World.frozen?,h]
def Ylb (S:StP) (n:ByteArray):Prop:=∀ B:Nat,(∀ ts,S=.ok ts→∀ t ∈ ts,t.2.size≤B)→n.size≤B
theorem Yei (S:StP):Ylb S (nmV S):=fun B h=>by
 cases hw:Zq9 S with
 | true =>
   obtain ⟨t,ts,e,e2,_⟩:=Gu hw;rw [e2];exact h _ e t (List.mem_cons_self ..)
 | false =>
   rw [(Ybm hw).1];exact Nat.zero_le _
theorem Ybg {s:ByteArray} {S:StP} {n:ByteArray} (h:Ylb (tkS s S) n):Ylb S n:=fun B hB=>h B (fun ts e t ht=>by
 rcases S with y|us
 · cases e
 · simp only [tkS] at e
   split at e
   · have e:=Except.ok.inj e
     subst e;exact hB us rfl t (List.mem_of_mem_tail ht)
   · cases e)
def Yop (nT:Nat) (left:Nat):Prop:=∀ (r d:Nat) (S:StP) (w:World),RP nT w r d S→Calls Tryz.prog 67 #[.pointer (some ⟨r,0,none⟩),.int .i64 ((4 - left:Nat):Int)] w fun e w'=>∃ (n:ByteArray) (l m:Int),e=.returned (.agg #[.string n,.int .i64 l,.int .i64 m])∧Ylb S n∧(∀ a ts,Zb (Zj left) S=.ok (a,ts)→n=a.1∧l=a.2.1∧m=a.2.2)∧RP nT w' r d (Xb (Zb (Zj left) S))∧Z0 r w w'
theorem Zq8 (left:Nat) (r d:Nat) (S:StP) (w:World) (h:RP nT w r d S) (hb:isS 1 oB S=false):Calls Tryz.prog 67 #[.pointer (some ⟨r,0,none⟩),.int .i64 ((4 - left:Nat):Int)] w fun e w'=>∃ (n:ByteArray) (l m:Int),e=.returned (.agg #[.string n,.int .i64 l,.int .i64 m])∧Ylb S n∧(∀ a ts,Zb (Zj left) S=.ok (a,ts)→n=a.1∧l=a.2.1∧m=a.2.2)∧RP nT w' r d (Xb (Zb (Zj left) S))∧Z0 r w w':=by
 have K0:=Hd (Q1.make (Q0.start h #[.string ⟨#[]⟩,.int .i64 0,.int .i64 0] 70) #[.string ⟨#[]⟩,.int .i64 0,.int .i64 0] 70);have hz:(w.alloc (.cells #[.string ⟨#[]⟩,.int .i64 0,.int .i64 0] 70)).heap.size=w.heap.size+1:=by simp
 rw [hz] at K0;rw [Ycu hb];have HI:=Hd (ris r d S oB _ K0.out.rd);rw [hb] at HI;clear h hb hz
 go_enter Tryz.func67,Tryz.ntmps67
 go_wp2_with fail
 refine HI.out.mono ?_;rintro e w1 ⟨rfl,hb1⟩;have K1:=Hd (K0.out.next (K0.out.rd.below hb1) (Z0.of_below hb1));have HN:=Hd (Uu r d S w1 K1.out.rd);clear hb1;go_wp2_with fail
 refine HN.out.mono ?_;rintro e w2 ⟨rfl,h2,m2⟩;have K2:=Hd (K1.out.next h2 m2);obtain ⟨y0,y1,y2,yz⟩:=Ya K2.out.loc;have yf0:=yz 0;have K3:=Hd (K2.out.put 0 (.string (nmV S)));have HB:=Hd (ris r d (nmS S) bB _ K3.out.rd);clear h2 m2 yz HN HI;go_wp2_with fail
 cases hc:isS 1 bB (nmS S) with
 | false =>
   rw [hc] at HB;have HC:=Hd hc;refine HB.out.mono ?_;rintro e w4 ⟨rfl,hb4⟩;have K4:=Hd (K3.out.next (K3.out.rd.below hb4) (Z0.of_below hb4));obtain ⟨x0,x1,x2,xz⟩:=Ya K4.out.loc;obtain ⟨q0,q1,q2,qz⟩:=Ya K4.out.res;have qf0:=qz 0;have qf1:=qz 1;have qf2:=qz 2;clear hb4 hc y0 y1 y2 yf0 xz qz;go_wp2_with fail
   have F:=K4.out.fin (ys:=tyZ) [.string (nmV S),.int .i64 0,.int .i64 0] rfl;refine Y6 (cs:=[.string (nmV S),.int .i64 0,.int .i64 0]) rfl rfl rfl F.1 Tryz.underlying70 ⟨_,rfl⟩ (by kernel_rfl) ?_;rw [Yfd HC.out,Y4,Yf];refine ⟨nmV S,0,0,rfl,Yei S,fun a ts e=>?_,F.2.1,F.2.2⟩;obtain ⟨_,rfl⟩:=Vv e;exact ⟨rfl,rfl,rfl⟩
 | true =>
   rw [hc] at HB;have HC:=Hd hc;refine HB.out.mono ?_;rintro e w4 ⟨rfl,hb4⟩;have K4:=Hd (K3.out.next (K3.out.rd.below hb4) (Z0.of_below hb4));have HT:=Hd (J1 r d (nmS S) bB w4 K4.out.rd);clear hb4 hc y0 y1 y2 yf0;go_wp2_with fail
   refine HT.out.mono ?_;rintro e w5 ⟨rfl,h5,m5⟩;have K5:=Hd (K4.out.next h5 m5);obtain ⟨x0,x1,x2,xz⟩:=Ya K5.out.loc;have xf2:=xz 2;have K6:=Hd (K5.out.put 2 (.int .i64 1));obtain ⟨z0,z1,z2,zz⟩:=Ya K6.out.loc;obtain ⟨q0,q1,q2,qz⟩:=Ya K6.out.res;have qf0:=qz 0;have qf1:=qz 1;have qf2:=qz 2;clear h5 m5 xz zz HT qz;have hb1:bits .or .i64 0 1=1:=by decide
   go_wp2_with fail
   have F:=K6.out.fin (ys:=tyZ) [.string (nmV S),.int .i64 0,.int .i64 1] rfl;refine Y6 (cs:=[.string (nmV S),.int .i64 0,.int .i64 1]) rfl rfl rfl F.1 Tryz.underlying70 ⟨_,rfl⟩ (by kernel_rfl) ?_;rw [Zxl HC.out,Y4,Yf];refine ⟨nmV S,0,1,rfl,Yei S,fun a ts e=>?_,F.2.1,F.2.2⟩;obtain ⟨_,rfl⟩:=Vv e;exact ⟨rfl,rfl,rfl⟩
theorem Yhr (r d:Nat) (S:StP) (w:World) (h:RP nT w r d S) (hb:isS 1 oB S=true):Calls Tryz.prog 67 #[.pointer (some ⟨r,0,none⟩),.int .i64 4] w fun e w'=>∃ (n:ByteArray) (l m:Int),e=.returned (.agg #[.string n,.int .i64 l,.int .i64 m])∧Ylb S n∧(∀ a ts,Zb (Zj 0) S=.ok (a,ts)→n=a.1∧l=a.2.1∧m=a.2.2)∧RP nT w' r d (Xb (Zb (Zj 0) S))∧Z0 r w w':=by
 have K0:=Hd (Q1.make (Q0.start h #[.string ⟨#[]⟩,.int .i64 0,.int .i64 0] 70) #[.string ⟨#[]⟩,.int .i64 0,.int .i64 0] 70);have hz:(w.alloc (.cells #[.string ⟨#[]⟩,.int .i64 0,.int .i64 0] 70)).heap.size=w.heap.size+1:=by simp
 rw [hz] at K0;have HI:=Hd (ris r d S oB _ K0.out.rd);rw [hb] at HI;have HR:=Hd (Ycc hb);obtain ⟨t,ts,rfl,_⟩:=Xr hb;clear h hb hz
 go_enter Tryz.func67,Tryz.ntmps67
 go_wp2_with fail
 refine HI.out.mono ?_;rintro e w1 ⟨rfl,hb1⟩;have K1:=Hd (K0.out.next (K0.out.rd.below hb1) (Z0.of_below hb1));have HF:=Hd (N3 r d (.ok (t :: ts)) 4 (by decide) w1 K1.out.rd);clear hb1;go_wp2_with fail
 refine HF.out.mono ?_;rintro e w2 ⟨rfl,h2,m2⟩;have K2:=Hd (K1.out.next h2 m2);obtain ⟨x0,x1,x2,xz⟩:=Ya K2.out.loc;obtain ⟨q0,q1,q2,qz⟩:=Ya K2.out.res;have qf0:=qz 0;have qf1:=qz 1;have qf2:=qz 2;clear h2 m2 xz qz;go_wp2_with fail
 have F:=K2.out.fin (ys:=tyZ) [.string ⟨#[]⟩,.int .i64 0,.int .i64 0] rfl;refine Y6 (cs:=[.string ⟨#[]⟩,.int .i64 0,.int .i64 0]) rfl rfl rfl F.1 Tryz.underlying70 ⟨_,rfl⟩ (by kernel_rfl) ?_;rw [HR.out];refine ⟨⟨#[]⟩,0,0,rfl,fun _ _=>Nat.zero_le _,fun a ts e=>(by cases e),F.2.1,F.2.2⟩
theorem Zxg {s:ByteArray} {S:StP} {ts:List Tok} (h:tkS s S=.ok ts):∃ us,S=.ok us:=by
 rcases S with y|us
 · cases h
 · exact ⟨us,rfl⟩
theorem Yhu {left:Nat} (hl:left≤3) {S:StP} {n:ByteArray} {l m:Int} (hv:∀ a ts,Zb (Zj left) S=.ok (a,ts)→n=a.1∧l=a.2.1∧m=a.2.2) {us:List Tok} (h:Xb (Zb (Zj left) S)=.ok us) :
  n=(Ul (eB,0,0) (Zb (Zj left) S)).1∧wrap64 (l+1)=(((Ul (eB,0,0) (Zb (Zj left) S)).2.1+1:Nat):Int)∧wrap64 (m*2)=((2*(Ul (eB,0,0) (Zb (Zj left) S)).2.2:Nat):Int)∧bits .or .i64 (wrap64 (m*2)) 1=((2*(Ul (eB,0,0) (Zb (Zj left) S)).2.2 ||| 1:Nat):Int):=by
 obtain ⟨t,e,hz⟩:=Of h;obtain ⟨e1,e2,e3⟩:=hv _ _ e;obtain ⟨vs,_,hp⟩:=Cu e;obtain ⟨b1,b2⟩:=Ym9 _ _ _ _ hp;rw [hz];have b3:2 ^ (t.2.1+1)≤2 ^ 4:=Nat.pow_le_pow_right (by decide) (by omega);have hw:wrap64 (m*2)=((2*t.2.2:Nat):Int):=by unfold wrap64;omega
 refine ⟨e1,by unfold wrap64;omega,hw,?_⟩;rw [hw];exact Yev (by omega)
theorem Ygt (left:Nat) (hl:left≤3) (IH:Yop nT left) (r d:Nat) (S:StP) (w:World) (h:RP nT w r d S) (hb:isS 1 oB S=true):Calls Tryz.prog 67 #[.pointer (some ⟨r,0,none⟩),.int .i64 ((4 - (left+1):Nat):Int)] w fun e w'=>∃ (n:ByteArray) (l m:Int),e=.returned (.agg #[.string n,.int .i64 l,.int .i64 m])∧Ylb S n∧(∀ a ts,Zb (Zj (left+1)) S=.ok (a,ts)→n=a.1∧l=a.2.1∧m=a.2.2)∧RP nT w' r d (Xb (Zb (Zj (left+1)) S))∧Z0 r w w':=by
 have K0:=Hd (Q1.make (Q0.start h #[.string ⟨#[]⟩,.int .i64 0,.int .i64 0] 70) #[.string ⟨#[]⟩,.int .i64 0,.int .i64 0] 70);have hz:(w.alloc (.cells #[.string ⟨#[]⟩,.int .i64 0,.int .i64 0] 70)).heap.size=w.heap.size+1:=by simp
 rw [hz] at K0;have HI:=Hd (ris r d S oB _ K0.out.rd);rw [hb] at HI;have HR:=Hd (Ydf (left:=left) hb);have e4:((4 - (left+1):Nat):Int)+1=((4 - left:Nat):Int):=by omega
 have e5:decide ((4:Int)≤((4 - (left+1):Nat):Int))=false:=by simp;omega
 have e6:((4 - (left+1):Nat):Int)≤4:=by omega
 have e7:(0:Int)≤((4 - (left+1):Nat):Int):=by omega
 have HIH:=Hd IH;generalize ((4 - (left+1):Nat):Int)=q at *;clear h hb hz IH
 go_enter Tryz.func67,Tryz.ntmps67
 go_wp2_with fail
 refine HI.out.mono ?_;rintro e w1 ⟨rfl,hb1⟩;have K1:=Hd (K0.out.next (K0.out.rd.below hb1) (Z0.of_below hb1));have HT:=Hd (J1 r d S oB w1 K1.out.rd);clear hb1;go_wp2_with fail
 refine HT.out.mono ?_;rintro e w2 ⟨rfl,h2,m2⟩;have K2:=Hd (K1.out.next h2 m2);have HY:=Hd (HIH.out r d (tkS oB S) w2 K2.out.rd);clear h2 m2;go_wp2_with fail
 refine HY.out.mono ?_;rintro e w3 ⟨n,l,m,rfl,hnb,hR,h3,m3⟩;have NB:=Hd hnb;clear hnb;have K3:=Hd (K2.out.next h3 m3);have HV:=Hd hR;obtain ⟨y0,y1,y2,yz⟩:=Ya K3.out.loc;have yf0:=yz 0;have yf1:=yz 1;have yf2:=yz 2;have K4:=Hd (((K3.out.put 0 (.string n)).put 1 (.int .i64 l)).put 2 (.int .i64 m));clear h3 m3 hR yz HY;go_wp2_with fail
 have HC:=Hd (J1 r d (Xb (Zb (Zj left) (tkS oB S))) cB _ K4.out.rd);refine HC.out.mono ?_;rintro e w5 ⟨rfl,h5,m5⟩;have K5:=Hd (K4.out.next h5 m5);obtain ⟨x0,x1,x2,xz⟩:=Ya K5.out.loc;have xf0:=xz 0;have xf1:=xz 1;have xf2:=xz 2;clear h5 m5 xz HC y0 y1 y2 yf0 yf1 yf2;go_wp2_with fail
 obtain ⟨L,hL⟩:∃ L,wrap64 (l+1)=L:=⟨_,rfl⟩;obtain ⟨M,hM⟩:∃ M,wrap64 (m*2)=M:=⟨_,rfl⟩;have HX:=Hd (fun us (h:Xb (Zb (Zj left) (tkS oB S))=.ok us)=>Yhu hl HV.out h);rw [hL,hM] at HX ⊢;have K6:=Hd ((K5.out.put 1 (.int .i64 L)).put 2 (.int .i64 M));have HB:=Hd (ris r d (tkS cB (Xb (Zb (Zj left) (tkS oB S)))) bB _ K6.out.rd);clear hL hM x0 x1 x2 xf0 xf1 xf2
 cases hc:isS 1 bB (tkS cB (Xb (Zb (Zj left) (tkS oB S)))) with
 | false =>
   rw [hc] at HB;have HC:=Hd hc;refine HB.out.mono ?_;rintro e w7 ⟨rfl,hb7⟩;have K7:=Hd (K6.out.next (K6.out.rd.below hb7) (Z0.of_below hb7));obtain ⟨x0,x1,x2,xz⟩:=Ya K7.out.loc;obtain ⟨q0,q1,q2,qz⟩:=Ya K7.out.res;have qf0:=qz 0;have qf1:=qz 1;have qf2:=qz 2;clear hb7 hc xz qz;go_wp2_with fail
   have F:=K7.out.fin (ys:=tyZ) [.string n,.int .i64 L,.int .i64 M] rfl;refine Y6 (cs:=[.string n,.int .i64 L,.int .i64 M]) rfl rfl rfl F.1 Tryz.underlying70 ⟨_,rfl⟩ (by kernel_rfl) ?_;rw [HR.out,Yfd HC.out,Y4,Yf];refine ⟨n,L,M,rfl,Ybg NB.out,fun a ts e=>?_,F.2.1,F.2.2⟩;obtain ⟨e1,rfl⟩:=Vv e;obtain ⟨us,e2⟩:=Zxg e1;obtain ⟨v1,v2,v3,_⟩:=HX.out us e2;exact ⟨v1,v2,v3⟩
 | true =>
   rw [hc] at HB;have HC:=Hd hc;refine HB.out.mono ?_;rintro e w7 ⟨rfl,hb7⟩;have K7:=Hd (K6.out.next (K6.out.rd.below hb7) (Z0.of_below hb7));have HT2:=Hd (J1 r d (tkS cB (Xb (Zb (Zj left) (tkS oB S)))) bB w7 K7.out.rd);clear hb7 hc;go_wp2_with fail
   refine HT2.out.mono ?_;rintro e w8 ⟨rfl,h8,m8⟩;have K8:=Hd (K7.out.next h8 m8);obtain ⟨B,hB⟩:∃ B,bits .or .i64 M 1=B:=⟨_,rfl⟩;obtain ⟨x0,x1,x2,xz⟩:=Ya K8.out.loc;have xf2:=xz 2;have K9:=Hd (K8.out.put 2 (.int .i64 B));obtain ⟨y0,y1,y2,yz⟩:=Ya K9.out.loc;obtain ⟨q0,q1,q2,qz⟩:=Ya K9.out.res;have qf0:=qz 0;have qf1:=qz 1;have qf2:=qz 2;clear h8 m8 xz yz qz HT2;go_wp2_with fail
   have HBB:=Hd hB;have F:=K9.out.fin (ys:=tyZ) [.string n,.int .i64 L,.int .i64 B] rfl;refine Y6 (cs:=[.string n,.int .i64 L,.int .i64 B]) rfl rfl rfl F.1 Tryz.underlying70 ⟨_,rfl⟩ (by kernel_rfl) ?_;rw [HR.out,Zxl HC.out,Y4,Yf];refine ⟨n,L,B,rfl,Ybg NB.out,fun a ts e=>?_,F.2.1,F.2.2⟩;obtain ⟨e1,rfl⟩:=Vv e;obtain ⟨t9,us9,e9,_⟩:=Xr HC.out;obtain ⟨us,e2⟩:=Zxg e9;obtain ⟨v1,v2,_,v4⟩:=HX.out us e2;exact ⟨v1,v2,by rw [← HBB.out];exact v4⟩
theorem Yqg:∀ left,left≤4→Yop nT left:=by
 intro left
 induction left with
 | zero =>
   intro _ r d S w h
   cases hb:isS 1 oB S with
   | false=>exact Zq8 0 r d S w h hb
   | true=>exact Yhr r d S w h hb
 | succ k ih =>
   intro hl r d S w h
   cases hb:isS 1 oB S with
   | false=>exact Zq8 (k+1) r d S w h hb
   | true=>exact Ygt k (by omega) (ih (by omega)) r d S w h hb
def Yfr (w:World) (B:Nat) (A:Option Addr) (n:Nat) (ts:List (Int × ByteArray)):Prop:=
 ts.length=n∧∀ (j:Nat) t,ts[j]? = some t→∃ b o,A=some ⟨b,o,none⟩∧b < B∧w.cell? ⟨b,o+j*2,none⟩=some (.int .i64 t.1)∧w.cell? ⟨b,o+j*2+1,none⟩=some (.string t.2)
theorem Yfr.below {w w':World} {B:Nat} {A:Option Addr} {n:Nat} {ts:List (Int × ByteArray)} (h:Yfr w B A n ts) (hb:Below B w w'):Yfr w' B A n ts:=
 ⟨h.1,fun j t ht=>by
  obtain ⟨b,o,e,hlt,h0,h1⟩:=h.2 j t ht;exact ⟨b,o,e,hlt,(hb.cell (p:=⟨b,o+j*2,none⟩) hlt).trans h0,(hb.cell (p:=⟨b,o+j*2+1,none⟩) hlt).trans h1⟩⟩
theorem Yfr.more {w:World} {B B':Nat} {A:Option Addr} {n:Nat} {ts:List (Int × ByteArray)} (h:Yfr w B A n ts) (hB:B≤B'):Yfr w B' A n ts:=
 ⟨h.1,fun j t ht=>by
  obtain ⟨b,o,e,hlt,r⟩:=h.2 j t ht;exact ⟨b,o,e,by omega,r⟩⟩
theorem Yfr.on {w w':World} {A:Option Addr} {n:Nat} {ts:List (Int × ByteArray)} (h:Yfr w w.heap.size A n ts) (hb:Below w.heap.size w w'):Yfr w' w'.heap.size A n ts:=(h.below hb).more hb.size
def Yku (ts:List (Int × List UInt8)):List (Int × ByteArray):=ts.map fun t=>(t.1,⟨t.2.toArray⟩)
theorem Zy6:∀ (ts:List (Int × List UInt8)) (j:Nat) t,ts[j]? = some t→(X8 ts)[2*j]? = some (.int .i64 t.1)∧(X8 ts)[2*j+1]? = some (.string ⟨t.2.toArray⟩):=by
 intro ts
 induction ts with
 | nil=>intro j t h;simp at h
 | cons u ts ih =>
   intro j t h
   cases j with
   | zero =>
     simp at h
     subst h;exact ⟨rfl,rfl⟩
   | succ j =>
     have:=ih j t (by simpa using h);exact this
theorem Eb.ts {w:World} {A:Option Addr} {cap:Nat} {ts:List (Int × List UInt8)} (h:Eb w A cap ts):Yfr w w.heap.size A ts.length (Yku ts):=by
 refine ⟨by simp [Yku],fun j t ht=>?_⟩;unfold Yku at ht;rw [List.getElem?_map] at ht;obtain ⟨u,hu,rfl⟩:=Option.map_eq_some_iff.1 ht;obtain ⟨v0,v1⟩:=Zy6 ts j u hu;obtain ⟨g,rfl,hg,h0⟩:=h.1 _ _ v0;obtain ⟨g',e,_,h1⟩:=h.1 _ _ v1;injection e with e
 injection e with e1
 subst e1;exact ⟨g,0,rfl,hg,by rw [Nat.zero_add,Nat.mul_comm];exact h0,by rw [Nat.zero_add,Nat.mul_comm];exact h1⟩
def Ynr (w wx:World):Prop:=Wp wx∧Below w.heap.size w wx
theorem Ynr.next {w wx wy:World} (h:Ynr w wx) (hb:Below wx.heap.size wx wy):Ynr w wy:=⟨h.1.below hb h.1.lt,h.2.trans (hb.mono h.2.size)⟩
theorem Ynr.alloc {w wx:World} (h:Ynr w wx) (o:Obj):Ynr w (wx.alloc o):=h.next ((Below.refl _ _).alloc (Nat.le_refl _) o)
def Ydt (b:Nat) (us:List Int) (w:World):Prop:=
 ∃ v,w.heap[b]? = some (.cells #[v] 100 (0,0))∧w.ownsRow (b+1) 3 1 v us.length (us.map (Value.int .i64))
theorem Ydt.lt {b:Nat} {us:List Int} {w:World} (h:Ydt b us w):b < w.heap.size:=by
 obtain ⟨v,hb,_⟩:=h;rcases Nat.lt_or_ge b w.heap.size with h'|h'
 · exact h'
 · rw [Array.getElem?_eq_none h'] at hb;cases hb
theorem Zv3 {w w':World} (h:Below w.heap.size w w'):w.grownBy w' none:=⟨h.os,h.tape,h.output,h.size,fun i hi _=>h.block i hi⟩
theorem Zxm (v:Value):v.ownBlock=none∨v.ownBlock ≠ none:=Classical.em _
theorem Ydt.below {b:Nat} {us:List Int} {w w':World} (h:Ydt b us w) (hb:Below w.heap.size w w'):Ydt b us w':=by
 have hl:=h.lt;obtain ⟨v,h1,h2⟩:=h;exact ⟨v,(hb.block b hl).trans h1,h2.kept (Zv3 hb) (Zxm _)⟩
theorem Xn {w:World} {base:Nat} {e:TypeId} {v:Value} {n:Nat} {xs:List Value} (h:w.ownsRow base e 1 v n xs):∃ A cap,v=.slice A n cap:=by
 rcases h.2 with ⟨hv,hn⟩|⟨g,cap,cur,hv,_⟩
 · exact ⟨none,0,by rw [hv,hn]⟩
 · exact ⟨_,_,hv⟩
theorem Zj7 {w:World} {base n:Nat} {A:Option Addr} {cap:Nat} {us:List Int} (h:w.ownsRow base 3 1 (.slice A n cap) us.length (us.map (Value.int .i64))):n=us.length∧Ln w w.heap.size A us.length us:=by
 rcases h.2 with ⟨hv,hn⟩|⟨g,c,cur,hv,hbase,hh,hnc,hm,hcs,htk⟩
 · injection hv with h1 h2 h3
   have hus:us=[]:=List.eq_nil_of_length_eq_zero hn;subst hus;exact ⟨by simpa using h2,⟨rfl,fun j z hz=>by simp at hz⟩⟩
 · have hv':=hv
   injection hv' with h1 h2 h3
   subst h1;refine ⟨h2,rfl,fun j z hz=>⟨g,0,rfl,?_,?_⟩⟩
   · exact (h.lt g rfl).2
   · subst h2 h3
     rw [Nat.zero_add,World.ownsRow.cellAt h j (by have:=(List.getElem?_eq_some_iff.1 hz).1;omega),List.getElem?_map,hz]
     rfl
def Bx (w:World) (A:Option Addr) (n:Nat) (zs:List Int):Prop:=
 zs.length=n∧(zs=[]∨∃ g c fz,A=some ⟨g,0,none⟩∧w.heap[g]? = some (.cells c 3 fz)∧∀ (j:Nat) z,zs[j]? = some z→c[j]? = some (.int .i64 z))
theorem Bx.at {w:World} {A:Option Addr} {n:Nat} {zs:List Int} (h:Bx w A n zs) {j:Nat} {z:Int} (hz:zs[j]? = some z):∃ g o,A=some ⟨g,o,none⟩∧w.cell? ⟨g,o+j,none⟩=some (.int .i64 z):=by
 rcases h.2 with rfl|⟨g,c,fz,e,hh,hc⟩
 · simp at hz
 · exact ⟨g,0,e,by simp [World.cell?,hh,hc j z hz]⟩
theorem Bx.kept {w w':World} {A:Option Addr} {n b B:Nat} {zs:List Int} {bs:List Value} (h:Bx w A n zs) (hB:Lib.IsBuilderF 137 5 B b bs w) (ho:Lib.OthersKept 5 (some b) w w'):Bx w' A n zs:=by
 refine ⟨h.1,h.2.imp_right fun ⟨g,c,fz,e,hh,hc⟩=>⟨g,c,fz,e,ho g _ hh ?_ ?_,hc⟩⟩
 · intro e1
   injection e1 with e1
   subst e1;rcases hB with ⟨_,v,hb,_⟩|⟨_,v,hb,_⟩<;>(rw [hh] at hb;injection hb with hb;injection hb with _ h2 _;exact absurd h2 (by decide))
 · intro c' fz' e1
   injection e1 with _ h2 _
   exact absurd h2 (by decide)
theorem Zjs (c:Int):1≤(Lib.encodeRune c).length∧(Lib.encodeRune c).length≤4:=by
 have:=Lib.encodeRuneZ_length c
 simpa [Lib.encodeRune] using this
def QTo (s:ByteArray) (cs ds rest:List Int) (pos:Nat):Prop:=cs=ds++rest∧s.data.toList.drop pos=Yh rest
theorem QTo.next {s:ByteArray} {cs ds rest:List Int} {c:Int} {pos:Nat} (h:QTo s cs ds (c :: rest) pos):QTo s cs (ds++[c]) rest (pos+(Lib.encodeRune c).length):=by
 refine ⟨by rw [h.1];simp,?_⟩;rw [← List.drop_drop,h.2,show Yh (c :: rest)=Lib.encodeRune c++Yh rest by simp [Yh],List.drop_left]
end Go.Proofs.YtkmloefbkgcbkaaGreatDoor
