/- The document's reader: a field's definition. (gen_prfd.py wrote it.) -/
import Derived.Test.YtkmloefbkgcbkaaGreatDoorSr40
set_option maxRecDepth 100000
set_option maxHeartbeats 8000000
namespace Go.Proofs.YtkmloefbkgcbkaaGreatDoor
open Go.RowKit
variable {nT:Nat}
abbrev fdZ:List Value:=[.string ⟨#[]⟩,.slice none 0 0,.string ⟨#[]⟩,.int .i64 0,.int .i64 0,.slice none 0 0]
theorem Z8 {w:World} {b:Nat} {z0 z1 z2 z3 z4 z5:Value} {t:TypeId} (h:w.heap[b]? = some (.cells #[z0,z1,z2,z3,z4,z5] t (0,0))):w.cell? ⟨b,0,none⟩=some z0∧w.cell? ⟨b,1,none⟩=some z1∧w.cell? ⟨b,2,none⟩=some z2∧w.cell? ⟨b,3,none⟩=some z3∧w.cell? ⟨b,4,none⟩=some z4∧w.cell? ⟨b,5,none⟩=some z5∧∀ i,w.frozen? ⟨b,i,none⟩=false:=by
 refine ⟨?_,?_,?_,?_,?_,?_,?_⟩<;>simp [World.cell?,World.frozen?,h]
theorem Gs {w:World} {P:Nat→Prop} {l:TrL} {c:Value} {t:TrS} {cs:List Value} (h:TS w P (.cons (.row l) .nil) [c]) (ht:TS w P t cs):TS w P (.cons (.row l) t) (c :: cs):=by
 simp only [TS] at h ⊢;obtain ⟨c0,ys,e,h0,_⟩:=h;injection e with e1 e2
 subst e1;exact ⟨_,_,rfl,h0,ht⟩
def Yqp (nT:Nat) (d r:Nat) (S:StP) (w:World) (e:Ending) (w':World):Prop:=∃ (nm:ByteArray) (A1:Option Addr) (n1 k1:Nat) (n:ByteArray) (tl tm:Int) (A2:Option Addr) (n2 k2:Nat),e=.returned (.agg #[.string nm,.slice A1 n1 k1,.string n,.int .i64 tl,.int .i64 tm,.slice A2 n2 k2])∧Ans Ze w w' (Zb (fdR d) S) [.string nm,.slice A1 n1 k1,.string n,.int .i64 tl,.int .i64 tm,.slice A2 n2 k2]∧RP nT w' r d (Xb (Zb (fdR d) S))∧Z0 r w w'
theorem Ykk (d r:Nat) (S:StP) (w:World) (hG:∀ ts,S=.ok ts→Zs ts) (hL:∀ ts,S=.ok ts→ts.length≤200000) (hd:d≤16) (h:RP nT w r d S):Calls Tryz.prog 33 #[.pointer (some ⟨r,0,none⟩)] w (Yqp nT d r S w):=by
 have HD:=Hd hd;have K00:=Hd (Q0.start h #[.string ⟨#[]⟩,.slice none 0 0,.string ⟨#[]⟩,.int .i64 0,.int .i64 0,.slice none 0 0] 73);have HS:=Hd (Yh4 r d S _ K00.out.rd);have HG1:=Hd (S4 hG);have NS1:=Hd (Vh HG1.out);have HG2:Hid (∀ us,nmS (Yt S)=.ok us→Zs us):=Hd (I5 HG1.out);have HL2:Hid (∀ us,nmS (Yt S)=.ok us→us.length≤200000):=Hd (Gg (Yeo hL));have HGA:Hid (∀ us,(Xb (Yas d S))=.ok us→Zs us):=Hd (Qq (Tq d) HG2.out);have HLA:Hid (∀ us,(Xb (Yas d S))=.ok us→us.length≤200000):=Hd (Zkd (Tq d) HL2.out);have HGB:Hid (∀ us,(Xb (Yfp d S))=.ok us→Zs us):=Hd (Qq (Rz 4).suf (Uj HGA.out));have HLB:Hid (∀ us,(Xb (Yfp d S))=.ok us→us.length≤200000):=Hd (Zkd (Rz 4).suf (Be HLA.out));clear h hd hG hL
 go_enter Tryz.func33,Tryz.ntmps33
 go_wp2_with fail
 refine HS.out.mono ?_;rintro e wa ⟨rfl,ha,ma⟩;have K01:=Hd (K00.out.next ha ma);have NB:=Hd (Uu r d _ _ K01.out.rd);clear ha ma HS K00;go_wp2_with fail
 refine NB.out.mono ?_;rintro e wb ⟨rfl,hb,mb⟩;have K02:=Hd (K01.out.next hb mb);have K0:=Hd (Q1.make K02.out #[.string (nmV (Yt S)),.slice none 0 0,.string ⟨#[]⟩,.int .i64 0,.int .i64 0,.slice none 0 0] 73);have HI:=Hd (ris r d (nmS (Yt S)) opB _ K0.out.rd);clear hb mb NB K01 K02;go_wp2_with fail
 refine HI.out.mono ?_;rintro e wc ⟨rfl,hbc⟩;have K1:=Hd (K0.out.next (K0.out.rd.below hbc) (Z0.of_below hbc));clear hbc HI K0;refine Or.elim (Bool.eq_false_or_eq_true (isS 1 opB (nmS (Yt S)))) (fun h2=>?_) (fun h2=>?_)
 focus
  rw [h2];have HT:=Hd (J1 r d _ opB wc K1.out.rd);have EF:Hid (Yas d S=Zb (N7 (W4 d) V8 cpB []) (tkS opB (nmS (Yt S)))):=Hd (Yfe h2);go_wp2_with fail
  refine HT.out.mono ?_;rintro e w5 ⟨rfl,h5,m5⟩;have K5:=Hd (K1.out.next h5 m5);have HP:=Hd (Yb1 cpB d r _ w5 (Uj HG2.out) (Be HL2.out) HD.out K5.out.rd);clear h5 m5 HT h2 K1;go_wp2_with fail
  refine HP.out.mono ?_;rintro e w6 ⟨A1,n1,k1,rfl,⟨x1,hx1,hxe1⟩,h6,m6⟩;have K6:=Hd (K5.out.next h6 m6);have O6:=Hd (OvS.of (show TS _ (Y7 _ w6) (.cons (.row x1) .nil) [.slice A1 n1 k1] from TS.row hx1 (TS.nil _ _)) K5.out.blt);obtain ⟨y0,y1,y2,y3,y4,y5,yz⟩:=Z8 K6.out.loc;have yf1:=yz 1;have K8:Hid (Q1 nT w r (w6.setCell ⟨wb.heap.size,1,none⟩ (.slice A1 n1 k1)) (.cells #[.string ⟨#[]⟩,.slice none 0 0,.string ⟨#[]⟩,.int .i64 0,.int .i64 0,.slice none 0 0] 73 (0,0)) wb.heap.size (.cells #[.string (nmV (Yt S)),.slice A1 n1 k1,.string ⟨#[]⟩,.int .i64 0,.int .i64 0,.slice none 0 0] 73 (0,0)) (Xb (Yas d S)) d):=Hd (by rw [EF.out];exact K6.out.put 1 (.slice A1 n1 k1));have OA:=Hd (O6.out.put (Nat.le_refl _) (i:=1) (v:=.slice A1 n1 k1));have HX1:Hid (∀ a us,Yas d S=.ok (a,us)→x1=Z5 Zk a):=Hd (by rw [EF.out];exact hxe1);have CI:=Hd (J1 r d _ Xj _ K8.out.rd);clear hx1 hxe1 h6 m6 yz HP K5 K6 O6 EF;go_wp2_with fail
  clear y0 y1 y2 y3 y4 y5 yf1;generalize w6.setCell ⟨wb.heap.size,1,none⟩ (.slice A1 n1 k1)=w8 at K8 OA CI ⊢
 rotate_left
 focus
  rw [h2];have EF:Hid (Yas d S=F1 (fun _=>[]) (Zb Nd (nmS (Yt S)))):=Hd (Yjj h2);obtain ⟨A1,hA1⟩:∃ A:Option Addr,A=none:=⟨_,rfl⟩;obtain ⟨n1,hn1⟩:∃ n:Nat,n=0:=⟨_,rfl⟩;obtain ⟨k1,hk1⟩:∃ n:Nat,n=0:=⟨_,rfl⟩;obtain ⟨x1,hx1⟩:∃ x:TrL,x=.nil:=⟨_,rfl⟩;have K8:Hid (Q1 nT w r wc (.cells #[.string ⟨#[]⟩,.slice none 0 0,.string ⟨#[]⟩,.int .i64 0,.int .i64 0,.slice none 0 0] 73 (0,0)) wb.heap.size (.cells #[.string (nmV (Yt S)),.slice A1 n1 k1,.string ⟨#[]⟩,.int .i64 0,.int .i64 0,.slice none 0 0] 73 (0,0)) (Xb (Yas d S)) d):=Hd (by rw [EF.out,Y4,Yf,hA1,hn1,hk1];exact K1.out);have OA:Hid (OvS wb.heap.size wc (.cons (.row x1) .nil) [.slice A1 n1 k1]):=Hd (by rw [hA1,hn1,hk1,hx1];exact TS.row (TP.none _ _) (TS.nil _ _))
  have HX1:Hid (∀ a us,Yas d S=.ok (a,us)→x1=Z5 Zk a):=Hd (fun a us e=>by
   rw [EF.out] at e;obtain ⟨_,rfl⟩:=Vv e;rw [hx1];rfl)
  have CI:=Hd (J1 r d _ Xj _ K8.out.rd);clear h2 K1 EF hA1 hn1 hk1 hx1;go_wp2_with fail
  generalize wc=w8 at K8 OA CI ⊢
 all_goals
  refine CI.out.mono ?_;rintro e w9 ⟨rfl,h9,m9⟩;have K9:=Hd (K8.out.next h9 m9);have O9:=Hd (OA.out.next m9 K8.out.rb);have TY:=Hd (Yqg 4 (Nat.le_refl _) r d _ _ K9.out.rd);clear h9 m9 CI K8 OA;go_wp2_with fail
  refine TY.out.mono ?_;rintro e wd ⟨n,tl,tm,rfl,hnb,hx,hd1,md⟩;have K10:=Hd (K9.out.next hd1 md);have O10:=Hd (O9.out.next md K9.out.rb);have NT:=Hd (hnb 9000 (fun us e t ht=>(Uj HGA.out us e t ht).1));have HX:Hid (∀ a us,Yfp d S=.ok (a,us)→n=a.1∧tl=a.2.1∧tm=a.2.2):=Hd hx;obtain ⟨y0,y1,y2,y3,y4,y5,yz⟩:=Z8 K10.out.loc;have yf2:=yz 2;have yf3:=yz 3;have yf4:=yz 4;have K11:Hid (Q1 nT w r (((wd.setCell ⟨wb.heap.size,2,none⟩ (.string n)).setCell ⟨wb.heap.size,3,none⟩ (.int .i64 tl)).setCell ⟨wb.heap.size,4,none⟩ (.int .i64 tm)) (.cells #[.string ⟨#[]⟩,.slice none 0 0,.string ⟨#[]⟩,.int .i64 0,.int .i64 0,.slice none 0 0] 73 (0,0)) wb.heap.size (.cells #[.string (nmV (Yt S)),.slice A1 n1 k1,.string n,.int .i64 tl,.int .i64 tm,.slice none 0 0] 73 (0,0)) (Xb (Yfp d S)) d):=Hd (((K10.out.put 2 (.string n)).put 3 (.int .i64 tl)).put 4 (.int .i64 tm));have O11:=Hd (((O10.out.put (Nat.le_refl _) (i:=2) (v:=.string n)).put (Nat.le_refl _) (i:=3) (v:=.int .i64 tl)).put (Nat.le_refl _) (i:=4) (v:=.int .i64 tm));have DI:=Hd (Yqf true d r (Xb (Yfp d S)) _ HGB.out HLB.out HD.out K11.out.rd);clear hnb hx hd1 md yz TY K9 K10 O9 O10;go_wp2_with fail
  clear y0 y1 y2 y3 y4 y5 yf2 yf3 yf4;refine DI.out.mono ?_;rintro e we ⟨A2,n2,k2,rfl,⟨x2,hx2,hxe2⟩,he9,me⟩;have K12:=Hd (K11.out.next he9 me);have O12:=Hd (O11.out.next me K11.out.rb);have OB:=Hd (OvS.of (show TS _ (Y7 _ we) (.cons (.row x2) .nil) [.slice A2 n2 k2] from TS.row hx2 (TS.nil _ _)) K11.out.blt);have HR:=Hd (Ynx d S);obtain ⟨y0,y1,y2,y3,y4,y5,yz⟩:=Z8 K12.out.loc;have yf5:=yz 5;have KC:Hid (Q1 nT w r (we.setCell ⟨wb.heap.size,5,none⟩ (.slice A2 n2 k2)) (.cells #[.string ⟨#[]⟩,.slice none 0 0,.string ⟨#[]⟩,.int .i64 0,.int .i64 0,.slice none 0 0] 73 (0,0)) wb.heap.size (.cells #[.string (nmV (Yt S)),.slice A1 n1 k1,.string n,.int .i64 tl,.int .i64 tm,.slice A2 n2 k2] 73 (0,0)) (Xb (Zb (fdR d) S)) d):=Hd (by rw [HR.out,Y4];exact K12.out.put 5 (.slice A2 n2 k2));have OC:=Hd (O12.out.put (Nat.le_refl _) (i:=5) (v:=.slice A2 n2 k2));have OD:=Hd (OB.out.put (Nat.le_refl _) (i:=5) (v:=.slice A2 n2 k2))
  have HV:Hid (∀ a us,Zb (fdR d) S=.ok (a,us)→(.cons (.one (.string (nmV (Yt S)))) (.cons (.row x1) (.cons (.one (.string n)) (.cons (.one (.int .i64 tl)) (.cons (.one (.int .i64 tm)) (.cons (.row x2) .nil))))))=Ze a):=Hd (fun a us e=>by
   rw [HR.out] at e;obtain ⟨v,e2,rfl⟩:=Vg e;obtain ⟨us2,e3,_⟩:=Cu e2;obtain ⟨t,e4,hz⟩:=Of e3;obtain ⟨us3,e5,_⟩:=Cu (show Zb (Zj 4) (tkS Xj (Xb (Yas d S)))=.ok (t,us2) from e4);obtain ⟨us4,e6⟩:=Zxg e5;obtain ⟨ps,e7,hy⟩:=Of e6;obtain ⟨v1,v2,v3⟩:=HX.out t us2 e4;rw [v1,v2,v3,hz,hy,HX1.out ps us4 e7,hxe2 v us e2]
   rfl)
  clear hx2 hxe2 he9 me yz DI K11 K12 O11 O12 OB HR HX HX1;obtain ⟨q0,q1,q2,q3,q4,q5,qz⟩:=Z8 KC.out.res;obtain ⟨x0,x1,x2,x3,x4,x5,xz⟩:=Z8 KC.out.loc;have qf0:=qz 0;have qf1:=qz 1;have qf2:=qz 2;have qf3:=qz 3;have qf4:=qz 4;have qf5:=qz 5;clear qz xz;go_wp2_with fail
  clear q0 qf0 x0 q1 qf1 x1 q2 qf2 x2 q3 qf3 x3 q4 qf4 x4 q5 qf5 x5 y0 y1 y2 y3 y4 y5 yf5;generalize we.setCell ⟨wb.heap.size,5,none⟩ (.slice A2 n2 k2)=wf at KC OC OD ⊢;have F:=KC.out.fin (ys:=fdZ) [.string (nmV (Yt S)),.slice A1 n1 k1,.string n,.int .i64 tl,.int .i64 tm,.slice A2 n2 k2] rfl;have OF:=OC.out.fin (w:=w) (Nat.le_of_lt KC.out.bl) [.string (nmV (Yt S)),.slice A1 n1 k1,.string n,.int .i64 tl,.int .i64 tm,.slice A2 n2 k2];have OG:=OD.out.fin (w:=w) (Nat.le_of_lt KC.out.bl) [.string (nmV (Yt S)),.slice A1 n1 k1,.string n,.int .i64 tl,.int .i64 tm,.slice A2 n2 k2];refine Y6 (cs:=[.string (nmV (Yt S)),.slice A1 n1 k1,.string n,.int .i64 tl,.int .i64 tm,.slice A2 n2 k2]) rfl rfl rfl F.1 Tryz.underlying73 ⟨_,rfl⟩ (by kernel_rfl) ?_;exact ⟨_,_,_,_,_,_,_,_,_,_,rfl,⟨_,TS.str NS1.out (Gs OF (TS.str NT.out (TS.int (TS.int OG)))),HV.out⟩,F.2.1,F.2.2⟩
variable {nT:Nat}
abbrev dfZ:List Value:=[.int .i64 0,.string ⟨#[]⟩,.slice none 0 0,.slice none 0 0,.slice none 0 0,.slice none 0 0]
theorem Ef (wd:ByteArray):(wd.toList == [116,121,112,101])=decide (Yo wd=1)∧(wd.toList == [105,110,116,101,114,102,97,99,101])=decide (Yo wd=2)∧(wd.toList == [117,110,105,111,110])=decide (Yo wd=3)∧(wd.toList == [101,110,117,109])=decide (Yo wd=4)∧(wd.toList == [105,110,112,117,116])=decide (Yo wd=5):=by
 unfold Yo;rw [show Yha.toList=[116,121,112,101] by decide +kernel,show Yi0.toList=[105,110,116,101,114,102,97,99,101] by decide +kernel,show Zv6.toList=[117,110,105,111,110] by decide +kernel,show Zkv.toList=[101,110,117,109] by decide +kernel,show Zki.toList=[105,110,112,117,116] by decide +kernel]
 by_cases h1:wd.toList=[116,121,112,101]
 · rw [h1];decide +kernel
 by_cases h2:wd.toList=[105,110,116,101,114,102,97,99,101]
 · rw [h2];decide +kernel
 by_cases h3:wd.toList=[117,110,105,111,110]
 · rw [h3];decide +kernel
 by_cases h4:wd.toList=[101,110,117,109]
 · rw [h4];decide +kernel
 by_cases h5:wd.toList=[105,110,112,117,116]
 · rw [h5];decide +kernel
 rw [show (wd.toList == [116,121,112,101])=false by simpa using h1,show (wd.toList == [105,110,116,101,114,102,97,99,101])=false by simpa using h2,show (wd.toList == [117,110,105,111,110])=false by simpa using h3,show (wd.toList == [101,110,117,109])=false by simpa using h4,show (wd.toList == [105,110,112,117,116])=false by simpa using h5]
 decide
def Yns (nT:Nat) (k:Int) (d r:Nat) (S:StP) (w:World) (e:Ending) (w':World):Prop:=∃ (nm:ByteArray) (A1:Option Addr) (n1 k1:Nat) (A2:Option Addr) (n2 k2:Nat) (A3:Option Addr) (n3 k3:Nat) (A4:Option Addr) (n4 k4:Nat),e=.returned (.agg #[.int .i64 k,.string nm,.slice A1 n1 k1,.slice A2 n2 k2,.slice A3 n3 k3,.slice A4 n4 k4])∧Ans Z9 w w' (Zb (Ni d k) S) [.int .i64 k,.string nm,.slice A1 n1 k1,.slice A2 n2 k2,.slice A3 n3 k3,.slice A4 n4 k4]∧RP nT w' r d (Xb (Zb (Ni d k) S))∧Z0 r w w'
theorem Zvw (wd:ByteArray) (hwd:Yo wd=3) (d r:Nat) (S:StP) (w:World) (hG:∀ ts,S=.ok ts→Zs ts) (hL:∀ ts,S=.ok ts→ts.length≤200000) (hd:d≤16) (h:RP nT w r d S):Calls Tryz.prog 14 #[.pointer (some ⟨r,0,none⟩),.string wd] w (Yns nT 3 d r S w):=by
 obtain ⟨t1,t2,t3,t4,t5⟩:=Ef wd;rw [hwd] at t1 t2 t3 t4 t5;have HD:=Hd hd;have K00:=Hd (Q0.start h #[.int .i64 0,.string ⟨#[]⟩,.slice none 0 0,.slice none 0 0,.slice none 0 0,.slice none 0 0] 35);have NI:=Hd (Uu r d S _ K00.out.rd);have NS1:=Hd (Vh hG);have HG1:Hid (∀ us,tkS eqB (nmS S)=.ok us→Zs us):=Hd (Uj (I5 hG));have HL1:Hid (∀ us,tkS eqB (nmS S)=.ok us→us.length≤200000):=Hd (Be (Gg hL));have HR:=Hd (Ybl (d:=d) S);replace t1:(wd.toList == [116,121,112,101])=false:=t1;replace t2:(wd.toList == [105,110,116,101,114,102,97,99,101])=false:=t2;clear h hd hG hL hwd t5
 go_enter Tryz.func14,Tryz.ntmps14
 go_wp2_with fail
 refine NI.out.mono ?_;rintro e wb ⟨rfl,hb,mb⟩;have K01:=Hd (K00.out.next hb mb);have K3:=Hd (Q1.make K01.out #[.int .i64 3,.string (nmV S),.slice none 0 0,.slice none 0 0,.slice none 0 0,.slice none 0 0] 35);have TC:=Hd (J1 r d _ eqB _ K3.out.rd);clear hb mb NI K00 K01;go_wp2_with fail
 refine TC.out.mono ?_;rintro e w3 ⟨rfl,h3,m3⟩;have K4:=Hd (K3.out.next h3 m3);have NM:=Hd (Yez Yk2 d r _ w3 HG1.out HL1.out K4.out.rd);clear h3 m3 TC K3;go_wp2_with fail
 refine NM.out.mono ?_;rintro e w4 ⟨Ax,nx,kx,rfl,⟨x,hx,hxe⟩,h4,m4⟩;have K5:=Hd (K4.out.next h4 m4);have O5:=Hd (OvS.of (show TS _ (Y7 _ w4) (.cons (.row x) .nil) [.slice Ax nx kx] from TS.row hx (TS.nil _ _)) K4.out.blt);obtain ⟨y0,y1,y2,y3,y4,y5,yz⟩:=Z8 K5.out.loc;have yf4:=yz 4;have KC:Hid (Q1 nT w r (w4.setCell ⟨wb.heap.size,4,none⟩ (.slice Ax nx kx)) (.cells #[.int .i64 0,.string ⟨#[]⟩,.slice none 0 0,.slice none 0 0,.slice none 0 0,.slice none 0 0] 35 (0,0)) wb.heap.size (.cells #[.int .i64 3,.string (nmV S),.slice none 0 0,.slice none 0 0,.slice Ax nx kx,.slice none 0 0] 35 (0,0)) (Xb (Zb (Ni d 3) S)) d):=Hd (by rw [HR.out,Y4];exact K5.out.put 4 (.slice Ax nx kx));have OD:=Hd (O5.out.put (Nat.le_refl _) (i:=4) (v:=.slice Ax nx kx))
 have HV:Hid (∀ a us,Zb (Ni d 3) S=.ok (a,us)→(.cons (.one (.int .i64 3)) (.cons (.one (.string (nmV S))) (.cons (.row .nil) (.cons (.row .nil) (.cons (.row x) (.cons (.row .nil) .nil))))))=Z9 a):=Hd (fun a us e=>by
  rw [HR.out] at e;obtain ⟨v,e2,rfl⟩:=Vg e;rw [hxe v us e2]
  rfl)
 clear hx hxe h4 m4 yz NM K4 K5 O5 HR;obtain ⟨q0,q1,q2,q3,q4,q5,qz⟩:=Z8 KC.out.res;obtain ⟨x0,x1,x2,x3,x4,x5,xz⟩:=Z8 KC.out.loc;have qf0:=qz 0;have qf1:=qz 1;have qf2:=qz 2;have qf3:=qz 3;have qf4:=qz 4;have qf5:=qz 5;clear qz xz;go_wp2_with fail
 clear q0 qf0 x0 q1 qf1 x1 q2 qf2 x2 q3 qf3 x3 q4 qf4 x4 q5 qf5 x5 y0 y1 y2 y3 y4 y5 yf4;generalize w4.setCell ⟨wb.heap.size,4,none⟩ (.slice Ax nx kx)=wf at KC OD ⊢;have F:=KC.out.fin (ys:=dfZ) [.int .i64 3,.string (nmV S),.slice none 0 0,.slice none 0 0,.slice Ax nx kx,.slice none 0 0] rfl;have OG:=OD.out.fin (w:=w) (Nat.le_of_lt KC.out.bl) [.int .i64 3,.string (nmV S),.slice none 0 0,.slice none 0 0,.slice Ax nx kx,.slice none 0 0];refine Y6 (cs:=[.int .i64 3,.string (nmV S),.slice none 0 0,.slice none 0 0,.slice Ax nx kx,.slice none 0 0]) rfl rfl rfl F.1 Tryz.underlying35 ⟨_,rfl⟩ (by kernel_rfl) ?_;exact ⟨(nmV S),none,0,0,none,0,0,Ax,nx,kx,none,0,0,rfl,⟨_,TS.int (TS.str NS1.out (TS.row (TP.none _ _) (TS.row (TP.none _ _) (Gs OG (TS.row (TP.none _ _) (TS.nil _ _)))))),HV.out⟩,F.2.1,F.2.2⟩
theorem Zyt (wd:ByteArray) (hwd:Yo wd=5) (d r:Nat) (S:StP) (w:World) (hG:∀ ts,S=.ok ts→Zs ts) (hL:∀ ts,S=.ok ts→ts.length≤200000) (hd:d≤16) (h:RP nT w r d S):Calls Tryz.prog 14 #[.pointer (some ⟨r,0,none⟩),.string wd] w (Yns nT 5 d r S w):=by
 obtain ⟨t1,t2,t3,t4,t5⟩:=Ef wd;rw [hwd] at t1 t2 t3 t4 t5;have HD:=Hd hd;have K00:=Hd (Q0.start h #[.int .i64 0,.string ⟨#[]⟩,.slice none 0 0,.slice none 0 0,.slice none 0 0,.slice none 0 0] 35);have NI:=Hd (Uu r d S _ K00.out.rd);have NS1:=Hd (Vh hG);have HG1:Hid (∀ us,tkS omB (nmS S)=.ok us→Zs us):=Hd (Uj (I5 hG));have HL1:Hid (∀ us,tkS omB (nmS S)=.ok us→us.length≤200000):=Hd (Be (Gg hL));have HR:=Hd (Yfl (d:=d) S);replace t1:(wd.toList == [116,121,112,101])=false:=t1;replace t2:(wd.toList == [105,110,116,101,114,102,97,99,101])=false:=t2;clear h hd hG hL hwd t5
 go_enter Tryz.func14,Tryz.ntmps14
 go_wp2_with fail
 refine NI.out.mono ?_;rintro e wb ⟨rfl,hb,mb⟩;have K01:=Hd (K00.out.next hb mb);have K3:=Hd (Q1.make K01.out #[.int .i64 5,.string (nmV S),.slice none 0 0,.slice none 0 0,.slice none 0 0,.slice none 0 0] 35);have TC:=Hd (J1 r d _ omB _ K3.out.rd);clear hb mb NI K00 K01;go_wp2_with fail
 refine TC.out.mono ?_;rintro e w3 ⟨rfl,h3,m3⟩;have K4:=Hd (K3.out.next h3 m3);have NM:=Hd (Yb1 cmB d r _ w3 HG1.out HL1.out HD.out K4.out.rd);clear h3 m3 TC K3;go_wp2_with fail
 refine NM.out.mono ?_;rintro e w4 ⟨Ax,nx,kx,rfl,⟨x,hx,hxe⟩,h4,m4⟩;have K5:=Hd (K4.out.next h4 m4);have O5:=Hd (OvS.of (show TS _ (Y7 _ w4) (.cons (.row x) .nil) [.slice Ax nx kx] from TS.row hx (TS.nil _ _)) K4.out.blt);obtain ⟨y0,y1,y2,y3,y4,y5,yz⟩:=Z8 K5.out.loc;have yf5:=yz 5;have KC:Hid (Q1 nT w r (w4.setCell ⟨wb.heap.size,5,none⟩ (.slice Ax nx kx)) (.cells #[.int .i64 0,.string ⟨#[]⟩,.slice none 0 0,.slice none 0 0,.slice none 0 0,.slice none 0 0] 35 (0,0)) wb.heap.size (.cells #[.int .i64 5,.string (nmV S),.slice none 0 0,.slice none 0 0,.slice none 0 0,.slice Ax nx kx] 35 (0,0)) (Xb (Zb (Ni d 5) S)) d):=Hd (by rw [HR.out,Y4];exact K5.out.put 5 (.slice Ax nx kx));have OD:=Hd (O5.out.put (Nat.le_refl _) (i:=5) (v:=.slice Ax nx kx))
 have HV:Hid (∀ a us,Zb (Ni d 5) S=.ok (a,us)→(.cons (.one (.int .i64 5)) (.cons (.one (.string (nmV S))) (.cons (.row .nil) (.cons (.row .nil) (.cons (.row .nil) (.cons (.row x) .nil))))))=Z9 a):=Hd (fun a us e=>by
  rw [HR.out] at e;obtain ⟨v,e2,rfl⟩:=Vg e;rw [hxe v us e2]
  rfl)
 clear hx hxe h4 m4 yz NM K4 K5 O5 HR;obtain ⟨q0,q1,q2,q3,q4,q5,qz⟩:=Z8 KC.out.res;obtain ⟨x0,x1,x2,x3,x4,x5,xz⟩:=Z8 KC.out.loc;have qf0:=qz 0;have qf1:=qz 1;have qf2:=qz 2;have qf3:=qz 3;have qf4:=qz 4;have qf5:=qz 5;clear qz xz;go_wp2_with fail
 clear q0 qf0 x0 q1 qf1 x1 q2 qf2 x2 q3 qf3 x3 q4 qf4 x4 q5 qf5 x5 y0 y1 y2 y3 y4 y5 yf5;generalize w4.setCell ⟨wb.heap.size,5,none⟩ (.slice Ax nx kx)=wf at KC OD ⊢;have F:=KC.out.fin (ys:=dfZ) [.int .i64 5,.string (nmV S),.slice none 0 0,.slice none 0 0,.slice none 0 0,.slice Ax nx kx] rfl;have OG:=OD.out.fin (w:=w) (Nat.le_of_lt KC.out.bl) [.int .i64 5,.string (nmV S),.slice none 0 0,.slice none 0 0,.slice none 0 0,.slice Ax nx kx];refine Y6 (cs:=[.int .i64 5,.string (nmV S),.slice none 0 0,.slice none 0 0,.slice none 0 0,.slice Ax nx kx]) rfl rfl rfl F.1 Tryz.underlying35 ⟨_,rfl⟩ (by kernel_rfl) ?_;exact ⟨(nmV S),none,0,0,none,0,0,none,0,0,Ax,nx,kx,rfl,⟨_,TS.int (TS.str NS1.out (TS.row (TP.none _ _) (TS.row (TP.none _ _) (TS.row (TP.none _ _) (Gs OG (TS.nil _ _)))))),HV.out⟩,F.2.1,F.2.2⟩
variable {nT:Nat}
theorem Zx2 (w:ByteArray):Yo w=0∨Yo w=1∨Yo w=2∨Yo w=3∨Yo w=4∨Yo w=5:=by
 unfold Yo
 repeat' split
 all_goals simp
theorem Ydp {w:ByteArray} (h:(w.toList == Xg.toList)=true):Yo w=0:=by
 have e:=eq_of_beq h;unfold Yo;rw [e]
 decide +kernel
def Nk (S:StP):Bool:=(X3 S).1 == 2 && !(decide (Yo (X3 S).2=0))
theorem Yk3 {S:StP} (h:Nk S=true):∃ (x:ByteArray) (r:List Tok),S=.ok ((2,x) :: r)∧nmV S=x∧nmS S=.ok r∧Yo x ≠ 0∧(X3 S).2=x:=by
 unfold Nk at h;rw [Bool.and_eq_true] at h;obtain ⟨h1,h2⟩:=h;obtain ⟨t,ts,rfl,e1,e2⟩:=Gu (S:=S) (by rw [Zze];exact h1);have h1:(t.1 == 2)=true:=h1;have ht:t.1=2:=by simpa using h1
 obtain ⟨k,x⟩:=t;obtain rfl:k=2:=ht;refine ⟨x,ts,rfl,e1,e2,?_,rfl⟩;have h2:(!(decide (Yo x=0)))=true:=h2
 simpa using h2
def Ynt (told:Bool) (D:Ub):Ub:=if told=true then D else ⟨D.defs,Ye,Ge D.defs⟩
def N5 (g:Nat) (told:Bool) (D:Ub) (fb:Bool) (R:Except Int Ub) (l:TrL) (sq sm:ByteArray):StP→Prop
 | .error y=>R=.error y
 | .ok ts=>l=Z5 Z9 D.defs∧sq=D.query∧sm=D.mutation∧(told=false→sq=eB∧sm=eB)∧(told=true→(sq.toList == [])=false)∧Yn ts∧ts.length+1≤g∧D.defs.length+ts.length≤200000∧(if fb=true∨ts ≠ [] then Nb g told D ts=R else R=.ok (Ynt told D))
theorem Yda {g:Nat} {told:Bool} {D:Ub} {R:Except Int Ub} {r:List Tok} (h:(if r.isEmpty=true then Except.ok (Ynt told D) else Nb g told D r)=R):(if false=true∨r ≠ [] then Nb g told D r=R else R=.ok (Ynt told D)):=by
 cases r with
 | nil=>rw [if_neg (by simp)];exact h.symm
 | cons t r=>rw [if_pos (.inr (by simp))];exact h
theorem Yjd {g:Nat} {told:Bool} {D:Ub} {fb:Bool} {R:Except Int Ub} {l:TrL} {sq sm:ByteArray} {ts:List Tok} (h:N5 (g+1) told D fb R l sq sm (.ok ts)) (hr:fb=true∨ts ≠ []) (hd:Nk (Yt (.ok ts))=true) :
   ∀ x:TrS,(∀ a us,Zb (Ni 0 (Yo (nmV (Yt (.ok ts))))) (nmS (Yt (.ok ts)))=.ok (a,us)→x=Z9 a)→∃ D',N5 g told D' false R (l.snoc x) sq sm (Xb (Zb (Ni 0 (Yo (nmV (Yt (.ok ts))))) (nmS (Yt (.ok ts))))):=by
 intro x hx;obtain ⟨rfl,rfl,rfl,hf,ht,hG,hg,hl,hs⟩:=h;obtain ⟨w,r0,e1,e2,e3,hk,_⟩:=Yk3 hd;rw [e2,e3] at hx ⊢;have e1:U1 ts=(2,w) :: r0:=Except.ok.inj e1;have hsub:=Vd ts;rw [e1] at hsub;rw [if_pos hr,Nb,e1] at hs
 have hns:atB 2 Xg ((2,w) :: r0)=false:=by
   cases hb:atB 2 Xg ((2,w) :: r0) with
   | false=>rfl
   | true =>
     have hb:((2:Int) == 2 && (w.toList == Xg.toList))=true:=hb;rw [Bool.and_eq_true] at hb;exact absurd (Ydp hb.2) hk
 rw [if_neg (by rw [hns];simp)] at hs
 have hdn:Ut 0 ((2,w) :: r0)=Ni 0 (Yo w) r0:=by
   rw [Ydl];unfold nmR;rw [Xu,if_pos rfl];simp only;rw [if_neg hk];rfl
 have hrun:Zb (Ni 0 (Yo w)) (.ok r0)=Ut 0 ((2,w) :: r0):=hdn.symm;rw [hrun] at hx ⊢
 cases ho:Ut 0 ((2,w) :: r0) with
 | error y =>
   rw [ho] at hs;exact ⟨D,hs.symm⟩
 | ok p =>
   obtain ⟨d,us⟩:=p;rw [ho] at hs hx;have hx:=hx d us rfl;subst hx;have hsf:=Cd ho;have hsl:=hsub.length_le;have hs2:=hsf.2;simp only [List.length_cons] at hsl hs2;refine ⟨⟨D.defs++[d],D.query,D.mutation⟩,(Zx _ _ _).symm,rfl,rfl,hf,ht,(hG.sub hsub).sub hsf.1,by show us.length+1≤g;omega,by show (D.defs++[d]).length+us.length≤200000;simp;omega,Yda ?_⟩;rw [← hs];unfold Ynt
   show (if us.isEmpty=true then _ else _)=(if us.isEmpty=true then _ else _)
   cases us.isEmpty<;>cases told<;>rfl
theorem Yix {ts us:List Tok} {q m:ByteArray} (hN:Vq ts) (h:Yp ts=.ok ((q,m),us)):(q.toList == [])=false:=by
 unfold Yp at h
 split at h
 · split at h
   · split at h
     · cases hn:Zg ts.tail.tail.tail with
       | none=>rw [hn] at h;cases h
       | some p =>
         obtain ⟨n,r⟩:=p;rw [hn] at h;simp only at h
         cases hm:Ql r with
         | error x=>rw [hm] at h;cases h
         | ok p2 =>
           obtain ⟨m2,r2⟩:=p2;rw [hm] at h;simp only at h
           split at h
           · have e:=(Prod.mk.inj (Except.ok.inj h)).1
             obtain ⟨e1,_⟩:=Prod.mk.inj e;subst e1;rcases hl:ts.tail.tail.tail with _|⟨t,l⟩
             · rw [hl] at hn;cases hn
             · rw [hl,Xu] at hn
               split at hn
               · rename_i h2
                 have e:=(Prod.mk.inj (Option.some.inj hn)).1;subst e;have hmem:t ∈ ts:=List.mem_of_mem_tail (List.mem_of_mem_tail (List.mem_of_mem_tail (by rw [hl];exact List.mem_cons_self ..)));have hb:=(hN t hmem h2).1;rw [Lib.toList_data];rcases hd:t.2.data.toList with _|⟨b,bs⟩
                 · rw [hd] at hb;cases hb
                 · rfl
               · cases hn
           · cases h
     · cases h
   · cases h
 · cases h
theorem Zyu {g:Nat} {D:Ub} {fb:Bool} {R:Except Int Ub} {l:TrL} {sq sm:ByteArray} {ts:List Tok} (h:N5 (g+1) false D fb R l sq sm (.ok ts)) (hr:fb=true∨ts ≠ []) (hd:isS 2 Xg (Yt (.ok ts))=true) :
   ∀ a b:ByteArray,(∀ p us,Zb Yp (nmS (Yt (.ok ts)))=.ok (p,us)→a=p.1∧b=p.2)→∃ D',N5 g true D' false R l a b (Xb (Zb Yp (nmS (Yt (.ok ts))))):=by
 intro a b hx;obtain ⟨rfl,rfl,rfl,hf,ht,hG,hg,hl,hs⟩:=h;obtain ⟨t,r0,e1,_,e3⟩:=Gu (Wd hd);rw [e3] at hx ⊢;have e1:U1 ts=t :: r0:=Except.ok.inj e1;have hsub:=Vd ts;rw [e1] at hsub;have hat:atB 2 Xg (t :: r0)=true:=by rw [← e1];exact hd
 rw [if_pos hr,Nb,e1,if_pos ⟨rfl,hat⟩] at hs;simp only [List.tail_cons] at hs
 show ∃ D',N5 g true D' false R (Z5 Z9 D.defs) a b (Xb (Yp r0))
 cases ho:Yp r0 with
 | error y =>
   rw [ho] at hs;exact ⟨D,hs.symm⟩
 | ok p =>
   obtain ⟨⟨q,m⟩,us⟩:=p;rw [ho] at hs;obtain ⟨rfl,rfl⟩:=hx (q,m) us ho;have hsf:=Mg ho;have hsl:=hsub.length_le;have hs2:=hsf.2;simp only [List.length_cons] at hsl hs2;refine ⟨⟨D.defs,a,b⟩,rfl,rfl,rfl,fun e=>(by cases e),fun _=>?_,(hG.sub ((List.suffix_cons t r0).trans hsub)).sub hsf.1,by show us.length+1≤g;omega,by show D.defs.length+us.length≤200000;omega,Yda ?_⟩
   · exact Yix ((hG.sub ((List.suffix_cons t r0).trans hsub)).2) ho
   · rw [← hs]
     unfold Ynt
     show (if us.isEmpty=true then _ else _)=(if us.isEmpty=true then _ else _)
     cases us.isEmpty<;>rfl
theorem Ydg {g:Nat} {told:Bool} {D:Ub} {fb:Bool} {R:Except Int Ub} {l:TrL} {sq sm:ByteArray} {ts:List Tok} (h:N5 (g+1) told D fb R l sq sm (.ok ts)) (hr:fb=true∨ts ≠ []) (hd:Nk (Yt (.ok ts))=false) (hn:told=true∨isS 2 Xg (Yt (.ok ts))=false) :
   N5 g told D false R l sq sm (Mp 2 (Yt (.ok ts))):=by
 obtain ⟨rfl,rfl,rfl,hf,ht,hG,hg,hl,hs⟩:=h;rw [if_pos hr,Nb] at hs
 rw [if_neg (by
   intro hh;rcases hn with e|e
   · rw [e] at hh;cases hh.1
   · have e:atB 2 Xg (U1 ts)=false:=e
     rw [e] at hh;cases hh.2)] at hs
 show R=.error 2;rw [← hs];have hd:Nk (.ok (U1 ts))=false:=hd;obtain ⟨us,hus⟩:∃ us,U1 ts=us:=⟨_,rfl⟩;rw [hus] at hd ⊢;rcases us with _|⟨t,r⟩
 · rfl
 · rw [Ydl]
   unfold nmR;rw [Xu]
   by_cases h2:t.1=2
   · rw [if_pos h2]
     simp only
     have hk:Yo t.2=0:=by
      have hd:(t.1 == 2 && !(decide (Yo t.2=0)))=false:=hd;rw [h2] at hd
      simpa using hd
     rw [if_pos hk];rfl
   · rw [if_neg h2];rfl
variable {nT:Nat}
def OvB (b Bs:Nat) (W:World) (x:TrS) (c:List Value):Prop:=TS W (fun k=>b < k∧k < Bs∧k < W.heap.size) x c
theorem OvB.of {b Bs:Nat} {W:World} {x:TrS} {c:List Value} (h:OvS b W x c) (hB:Bs=W.heap.size):OvB b Bs W x c:=TS.keep (fun _ hk=>⟨⟨hk.1,by rw [hB];exact hk.2,hk.2⟩,rfl⟩) _ _ h
theorem OvB.up {b Bs:Nat} {W:World} {x:TrS} {c:List Value} (h:OvB b Bs W x c) (_:Bs≤W.heap.size):OvS b W x c:=TS.keep (fun _ hk=>⟨⟨hk.1,hk.2.2⟩,rfl⟩) _ _ h
theorem OvB.next {b Bs r:Nat} {W W':World} {x:TrS} {c:List Value} (h:OvB b Bs W x c) (m:Z0 r W W') (hr:r < b) (_:b≤b):OvB b Bs W' x c:=TS.keep (fun k hk=>⟨⟨hk.1,hk.2.1,Nat.lt_of_lt_of_le hk.2.2 m.size⟩,m.block k hk.2.2 (fun e=>by have:=hk.1;injection e;omega)⟩) _ _ h
theorem OvB.put {b Bs i c0:Nat} {W:World} {x:TrS} {c:List Value} {v:Value} (h:OvB b Bs W x c) (hb:c0≤b):OvB b Bs (W.setCell ⟨c0,i,none⟩ v) x c:=TS.keep (fun k hk=>⟨⟨hk.1,hk.2.1,by have:=hk.2.2;simpa [World.setCell] using this⟩,Below.heap_setCell _ _ _ _ (show k ≠ c0 by have:=hk.1;omega)⟩) _ _ h
theorem OvB.grown {b Bs:Nat} {W W':World} {o:Obj} {k:Option Nat} {x:TrS} {c:List Value} (h:OvB b Bs W x c) (hg:(W.alloc o).grownBy W' k) (hk:∀ d,k=some d→Bs≤d) (_hB:Bs≤W.heap.size):OvB b Bs W' x c:=TS.keep (fun j hj=>⟨⟨hj.1,hj.2.1,by have:=hg.size;have:=hj.2.2;simp at *;omega⟩,(hg.block j (by simp;omega) (fun e=>by have:=hk j e.symm;omega)).trans (Below.heap_alloc _ _ _ hj.2.2)⟩) _ _ h
theorem Ycm:(Tryz.prog.info? 73).map (fun i=>(i.zero,i.size,i.bytes))=some (some (.agg #[.string ⟨#[]⟩,.slice none 0 0,.string ⟨#[]⟩,.int .i64 0,.int .i64 0,.slice none 0 0]),6,96):=by kernel_rfl
variable {nT:Nat}
theorem StB.grown {B r q:Nat} {w w3 w4:World} {o:Obj} {k:Option Nat} (h:StB B r q w w3) (hB:B≤w3.heap.size) (hg:(w3.alloc o).grownBy w4 k) (hk:∀ b,k=some b→B≤b):StB B r q w w4:=by
 have ha:(w3.alloc o).heap.size=w3.heap.size+1:=by simp
 have hs:=hg.size;have h0:=h.size;exact ⟨hg.os.trans h.os,hg.tape.trans h.tape,hg.output.trans h.output,by omega,fun j hj hr hq=>((hg.block j (by omega) (fun e=>by have:=hk j e.symm;omega)).trans (Below.heap_alloc _ _ _ (by omega))).trans (h.block j hj hr hq)⟩
structure SC (nT:Nat) (w0:World) (r q B:Nat) (W:World) (V:Value) (a b:ByteArray) (S:StP):Prop where
 loc:W.heap[q]? = some (Zzy V a b)
 st:StB B r q w0 W
 rq:r < q
 qB:q < B
 bs:B≤W.heap.size
 rd:RP nT W r 0 S
theorem SC.next {w0:World} {r q B:Nat} {W W':World} {V:Value} {a b:ByteArray} {S S':StP} (h:SC nT w0 r q B W V a b S) (rd:RP nT W' r 0 S') (m:Z0 r W W'):SC nT w0 r q B W' V a b S':=
 ⟨m.keep h.loc (by have:=h.rq;omega),h.st.trans (StB.of m h.bs),h.rq,h.qB,Nat.le_trans h.bs m.size,rd⟩
theorem SC.grown {w0:World} {r q B:Nat} {W W':World} {V:Value} {a b:ByteArray} {S:StP} {o:Obj} {k:Option Nat} (h:SC nT w0 r q B W V a b S) (hg:(W.alloc o).grownBy W' k) (hk:∀ c,k=some c→B≤c):SC nT w0 r q B W' V a b S:=by
 have ha:(W.alloc o).heap.size=W.heap.size+1:=by simp
 have hb:=h.bs;have hq:=h.qB;have hr:=h.rq;have hs:=hg.size;refine ⟨?_,h.st.grown hb hg hk,hr,hq,by omega,(h.rd.below (blw _ _)).grown hg (fun c hc=>by have:=hk c hc;omega)⟩;rw [hg.block _ (by omega) (fun e=>by have:=hk _ e.symm;omega),Below.heap_alloc _ _ _ (by omega)];exact h.loc
theorem SC.put {w0:World} {r q B:Nat} {W:World} {V V':Value} {a b:ByteArray} {S:StP} (h:SC nT w0 r q B W V a b S):SC nT w0 r q B (W.setCell ⟨q,0,none⟩ V') V' a b S:=
 ⟨heap_setCell_same _ _ 0 _ _ _ h.loc,h.st.put,h.rq,h.qB,by have:=h.bs;simpa [World.setCell] using this,h.rd.set h.rq⟩
theorem SC.roots {w0:World} {r q B:Nat} {W W':World} {V V':Value} {a b a' b':ByteArray} {S S':StP} (h:SC nT w0 r q B W V a b S) (k:QS nT W r q W' V' a' b' S'):SC nT w0 r q B W' V' a' b' S':=
 ⟨k.loc,h.st.trans ⟨k.st.os,k.st.tape,k.st.output,k.st.size,fun j hj hr hq=>k.st.block j (Nat.lt_of_lt_of_le hj h.bs) hr hq⟩,h.rq,h.qB,Nat.le_trans h.bs k.st.size,k.rd⟩
theorem RTr.stb {ty:TypeId} {n B r q:Nat} {W W':World} {V:Value} {l:TrL} (h:RTr ty n B W V l) (m:StB W.heap.size r q W W') (hr:r < B) (hq:q < B):RTr ty n B W' V l:=by
 obtain ⟨xs,P,h1,h2,h3⟩:=h;have key:∀ k,B≤k→k < W.heap.size→W'.heap[k]? = W.heap[k]?:=fun k hk hl=>m.block k hl (by omega) (by omega);refine ⟨xs,P,?_,h2.keep (fun b hb=>⟨hb,key b (h3 b hb).1 (h3 b hb).2.1⟩),fun b hb=>⟨(h3 b hb).1,Nat.lt_of_lt_of_le (h3 b hb).2.1 m.size,(h3 b hb).2.2⟩⟩;refine ⟨h1.1,?_⟩;rcases h1.2 with hn|⟨g,cap,cur,e,hb,hgg,rest⟩
 · exact .inl hn
 · exact .inr ⟨g,cap,cur,e,hb,(key g hb (Array.getElem?_eq_some_iff.1 hgg).1).trans hgg,rest⟩
theorem SC.tree {w0:World} {r q B:Nat} {W:World} {V:Value} {D:Ub} {S:StP} (h:SC nT w0 r q B W V D.query D.mutation S) (hR:RTr 35 6 B W V (Z5 Z9 D.defs)) (h1:D.defs.length≤9223372036854775807) (hq:D.query.size≤9000) (hm:D.mutation.size≤9000):OvS q W (Xw D) [V,.string D.query,.string D.mutation]:=by
 have f1:=hR.fin (by rw [Zl];exact h1);have hB:=h.qB;unfold Xw OvS;exact TS.row (TP.keep (fun b hb=>⟨⟨by have:=hb.1;omega,hb.2⟩,rfl⟩) _ _ f1) (TS.str hq (TS.str hm (TS.nil _ _)))
theorem SC.put1 {w0:World} {r q B:Nat} {W:World} {V:Value} {a b:ByteArray} {S:StP} (h:SC nT w0 r q B W V a b S) (v:ByteArray):SC nT w0 r q B (W.setCell ⟨q,1,none⟩ (.string v)) V v b S:=
 ⟨heap_setCell_same _ _ 1 _ _ _ h.loc,h.st.put,h.rq,h.qB,by have:=h.bs;simpa [World.setCell] using this,h.rd.set h.rq⟩
theorem SC.put2 {w0:World} {r q B:Nat} {W:World} {V:Value} {a b:ByteArray} {S:StP} (h:SC nT w0 r q B W V a b S) (v:ByteArray):SC nT w0 r q B (W.setCell ⟨q,2,none⟩ (.string v)) V a v S:=
 ⟨heap_setCell_same _ _ 2 _ _ _ h.loc,h.st.put,h.rq,h.qB,by have:=h.bs;simpa [World.setCell] using this,h.rd.set h.rq⟩
def mB:Bool→ByteArray
 | true=>Fw
 | false=>eB
theorem Ynp (b:Bool):(mB b).size≤9000:=by cases b<;>decide
theorem Yeu (l:List Ih):mB (l.any Fj)=Ge l:=by
 unfold Ge
 show mB (l.any fun d=>d.name.toList == Fw.toList)=_
 cases l.any fun d=>d.name.toList == Fw.toList<;>rfl
theorem SC.all {w0:World} {r q B:Nat} {W:World} {V:Value} {T:TrL} {a b:ByteArray} {D:Ub} {S:StP} (h:SC nT w0 r q B W V a b S) (hR:RTr 35 6 B W V T) (hT:T=Z5 Z9 D.defs∧a=D.query∧b=D.mutation) (h1:D.defs.length≤200000) (hq:a.size≤9000) (hm:b.size≤9000):OvS q W (Xw D) [V,.string a,.string b]:=by
 obtain ⟨rfl,rfl,rfl⟩:=hT;exact h.tree hR (by omega) hq hm
theorem Yhl {B:Nat} {W:World} {l:List Ih} {A:Option Addr} {n c:Nat} (h:RTr 35 6 B W (.slice A n c) (Z5 Z9 l)) (h1:l.length≤9223372036854775807):Xc W (fun b=>b < W.heap.size) (Z5 Z9 l) A:=by
 have f1:=h.fin (by rw [Zl];exact h1);unfold TP at f1;obtain ⟨A',c',e,_,hr⟩:=f1;injection e with e1 e2 e3
 subst e1;exact Xc.keep (fun b hb=>⟨hb.2,rfl⟩) _ _ hr
end Go.Proofs.YtkmloefbkgcbkaaGreatDoor
