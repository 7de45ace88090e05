/- seineref6.SameDirs over equal directives. -/
import Derived.Test.YtkmloefbkgcbkaaGreatDoorSr24
set_option maxRecDepth 100000
set_option maxHeartbeats 4000000
namespace Go.Proofs.YtkmloefbkgcbkaaGreatDoor
open Go.RowKit
theorem L0 {α:Type} {f:α→TrS} {w:World} {P:Nat→Prop} (n:Nat) (hn:∀ a,(f a).len=n):∀ {l:List α} {A:Option Addr} {q:Nat} {x:α},Xc w P (Z5 f l) A→l[q]? = some x →
   ∃ b o cs,A=some ⟨b,o,none⟩∧P b∧(∀ j u,cs[j]? = some u→w.cell? ⟨b,o+q*n+j,none⟩=some u)∧TS w P (f x) cs
 | [],_,_,_,_,h=>by simp at h
 | a :: t,A,0,x,h,hx=>by
   obtain rfl:a=x:=by simpa using hx
   rw [Z5] at h;unfold Xc at h;obtain ⟨b,o,cs,e,hb,hc,h1,_⟩:=h;exact ⟨b,o,cs,e,hb,fun j u hj=>by rw [Nat.zero_mul,Nat.add_zero];exact hc j u hj,h1⟩
 | a :: t,A,q+1,x,h,hx=>by
   rw [Z5] at h;unfold Xc at h;obtain ⟨b,o,cs,e,hb,hc,h1,h2⟩:=h;have hx:t[q]? = some x:=by simpa using hx
   obtain ⟨b',o',cs',e',hb',hc',h1'⟩:=L0 n hn h2 hx;have e':=Option.some.inj e';injection e' with e1 e2 _
   subst e1 e2;rw [hn] at hc';exact ⟨b,o,cs',e,hb,fun j u hj=>by rw [Nat.add_mul,Nat.one_mul,Nat.add_comm (q*n) n,← Nat.add_assoc];exact hc' j u hj,h1'⟩
theorem Xc.below {w w':World} {B:Nat} (hb:Below B w w') {l:TrL} {A:Option Addr} (h:Xc w (fun b=>b < B) l A):Xc w' (fun b=>b < B) l A:=
 Xc.keep (fun b hlt=>⟨hlt,hb.block b hlt⟩) _ _ h
theorem Ypr {w:World} {B:Nat} {m:VM} {A:Option Addr} (h:Xc w (fun b=>b < B) (F2 m) A):MAt w B m A 0:=MP.at (fun _ h=>h) m A 0 (Yn1 m A 0 (by rw [Nat.zero_mul,Id];exact h))
theorem Yjt (d:Wg):(Dd d).len=2:=rfl
theorem Yjz {w:World} {B:Nat} {l:List Wg} {A:Option Addr} {q:Nat} {nm:ByteArray} {m:VM} (h:Xc w (fun b=>b < B) (Z5 Dd l) A) (hx:l[q]? = some (nm,m)) :
  ∃ b o A2 k2,A=some ⟨b,o,none⟩∧b < B∧w.cell? ⟨b,o+q*2,none⟩=some (.string nm)∧w.cell? ⟨b,o+q*2+1,none⟩=some (.slice A2 m.len k2)∧m.len≤9223372036854775807∧MAt w B m A2 0:=by
 obtain ⟨b,o,cs,e,hb,hc,h1⟩:=L0 2 Yjt h hx;simp only [Dd,TS,TP] at h1;obtain ⟨c0,_,rfl,⟨rfl,_⟩,c1,_,rfl,⟨A2,k2,rfl,hl,hM⟩,rfl⟩:=h1;rw [Wa] at hc hl;exact ⟨b,o,A2,k2,e,hb,hc 0 _ rfl,hc 1 _ rfl,hl,Ypr hM⟩
theorem Yhe (m:VM) (A A':Option Addr) (c c':Nat) (w:World) (B:Nat) (hB:B≤w.heap.size) (hl:m.len≤9223372036854775807) (h1:MAt w B m A 0) (h2:MAt w B m A' 0) :
  Calls Tryz.prog 99 #[.slice A m.len c,.slice A' m.len c'] w fun e w'=>e=.returned (.bool true)∧Below w.heap.size w w':=by
 refine (Yex m m A A' c c' w B hB hl hl h1 h2).mono ?_;rintro e' w' ⟨⟨b,rfl,hb⟩,hw⟩;rw [hb.2 rfl];exact ⟨rfl,hw⟩
def KD (w:World) (b O:Nat) (nm d:Value) (b' O':Nat) (nm' f:Value) (W:World):Prop:=
 W.cell? ⟨b,O,none⟩=some nm∧W.cell? ⟨b,O+1,none⟩=some d∧W.cell? ⟨b',O',none⟩=some nm'∧W.cell? ⟨b',O'+1,none⟩=some f∧Below w.heap.size w W
theorem KD.next {w W W':World} {b O:Nat} {nm d:Value} {b' O':Nat} {nm' f:Value} (h:KD w b O nm d b' O' nm' f W) (hl:b < w.heap.size) (hl':b' < w.heap.size) (hb:Below W.heap.size W W'):KD w b O nm d b' O' nm' f W':=by
 obtain ⟨h1,h2,h3,h4,hB⟩:=h;have g:=Nat.lt_of_lt_of_le hl hB.size;have g':=Nat.lt_of_lt_of_le hl' hB.size;exact ⟨(hb.cell (p:=⟨b,_,none⟩) g).trans h1,(hb.cell (p:=⟨b,_,none⟩) g).trans h2,(hb.cell (p:=⟨b',_,none⟩) g').trans h3,(hb.cell (p:=⟨b',_,none⟩) g').trans h4,hB.trans (hb.mono hB.size)⟩
theorem KD.written {w W:World} {b O:Nat} {nm d:Value} {b' O':Nat} {nm' f:Value} (h:KD w b O nm d b' O' nm' f W) :
  W.cell? ⟨b,O,none⟩=some nm∧W.cell? ⟨b,O+1,none⟩=some d∧W.cell? ⟨b',O',none⟩=some nm'∧W.cell? ⟨b',O'+1,none⟩=some f∧KD w b O nm d b' O' nm' f W:=
 ⟨h.1,h.2.1,h.2.2.1,h.2.2.2.1,h⟩
theorem Yft (l:List Wg) (A A':Option Addr) (c c':Nat) (w:World) (B:Nat) (hB:B≤w.heap.size) (hl:l.length≤9223372036854775807) (h1:Xc w (fun b=>b < B) (Z5 Dd l) A) (h2:Xc w (fun b=>b < B) (Z5 Dd l) A') :
  Calls Tryz.prog 71 #[.slice A l.length c,.slice A' l.length c'] w fun e w'=>e=.returned (.bool true)∧Below w.heap.size w w':=by
 have H1:=Hd h1;have H2:=Hd h2;have HB0:=Hd hB;clear h1 h2 hB;have e0:((l.length:Int) != (l.length:Int))=false:=by simp
 go_enter Tryz.func71,Tryz.ntmps71
 go_wp2_with fail
 go_loopg [5] l.length (fun g i wx=>∃ q:Nat,q+g=l.length∧i=.int .i64 q∧Below w.heap.size w wx)
 case atStart=>exact ⟨0,by omega,rfl,Below.refl _ _⟩
 case round =>
  obtain ⟨q,hq,rfl,hb⟩:=hrel;have HBB:=Hd hb;clear hb
  cases gk with
  | zero =>
    obtain rfl:q=l.length:=by omega
    go_wp2_with fail
    go_ret
    exact ⟨rfl,HBB.out⟩
  | succ g =>
    have hqn:q < l.length:=by omega
    have hqn':(q:Int) < (l.length:Int):=by omega
    obtain ⟨⟨nm,m⟩,hv⟩:∃ x,l[q]? = some x:=⟨_,List.getElem?_eq_getElem hqn⟩;obtain ⟨b,o,A2,k2,rfl,hblt,hnm,hcs,hml,hM⟩:=Yjz (Xc.below (HBB.out.mono HB0.out) H1.out) hv;obtain ⟨b',o',A3,k3,rfl,hblt',hnm',hcs',_,hM'⟩:=Yjz (Xc.below (HBB.out.mono HB0.out) H2.out) hv;clear hv;have e1:(nm.toList != nm.toList)=false:=by simp
    have e1':(nm.toList == nm.toList)=true:=by simp
    have HBW:Hid (b < w.heap.size):=Hd (Nat.lt_of_lt_of_le hblt HB0.out);have HBW':Hid (b' < w.heap.size):=Hd (Nat.lt_of_lt_of_le hblt' HB0.out);have hE0:KD w b (o+q*2) (.string nm) (.slice A2 m.len k2) b' (o'+q*2) (.string nm) (.slice A3 m.len k3) wr:=⟨hnm,hcs,hnm',hcs',HBB.out⟩;have C:=fun (wx:World) (hx:Below wr.heap.size wr wx)=>Hd (Yhe m A2 A3 k2 k3 wx B (Nat.le_trans HB0.out (Nat.le_trans HBB.out.size hx.size)) hml (MAt.below (hx.mono (Nat.le_trans HB0.out HBB.out.size)) _ _ _ hM) (MAt.below (hx.mono (Nat.le_trans HB0.out HBB.out.size)) _ _ _ hM'));clear hM hM' hblt hblt';go_wp2_with fail
    go_region_held3 (fun w'=>w'.cell? ⟨b,o+q*2,none⟩=some (.string nm)∧w'.cell? ⟨b,o+q*2+1,none⟩=some (.slice A2 m.len k2)∧w'.cell? ⟨b',o'+q*2,none⟩=some (.string nm)∧w'.cell? ⟨b',o'+q*2+1,none⟩=some (.slice A3 m.len k3)∧KD w b (o+q*2) (.string nm) (.slice A2 m.len k2) b' (o'+q*2) (.string nm) (.slice A3 m.len k3) w')
     (first
      | exact KD.written (KD.next hE0 HBW.out HBW'.out (Below.drew (Below.refl _ _)))
      | exact KD.written ((KD.next hE0 HBW.out HBW'.out (Below.drew (Below.refl _ _))).next HBW.out HBW'.out (by assumption))
      | exact KD.written (KD.next hE0 HBW.out HBW'.out (by assumption))
      | exact KD.written (KD.next (by assumption) HBW.out HBW'.out (by assumption))
      | go_keep)
     ((first|(go_at_call 99;refine (C _ (by first|exact Below.drew (Below.refl _ _)|exact Below.refl _ _|assumption)).out.mono ?_;rintro e w' ⟨rfl,hb⟩)))
    all_goals
     have HKM:KD w b (o+q*2) (.string nm) (.slice A2 m.len k2) b' (o'+q*2) (.string nm) (.slice A3 m.len k3) w':=And.right (And.right (And.right (And.right (by assumption))));have HKB:=Hd HKM.2.2.2.2;clear HKM hE0 C hnm hcs hnm' hcs';go_wp2_with fail
     go_roundg g
     case measure=>omega
     case rel=>exact ⟨q+1,by omega,by go_num,HKB.out⟩
def Fj (d:Ih):Bool:=d.name.toList == Fw.toList
theorem Zk8 (d:Ih):(Z9 d).len=6:=rfl
theorem Ye6 {w:World} {B:Nat} {l:List Ih} {A:Option Addr} {q:Nat} {x:Ih} (h:Xc w (fun b=>b < B) (Z5 Z9 l) A) (hx:l[q]? = some x) :
  ∃ (b o:Nat) (c2 c3 c4 c5:Value),A=some ⟨b,o,none⟩∧b < B∧w.cell? ⟨b,o+q*6,none⟩=some (.int .i64 x.kind)∧w.cell? ⟨b,o+q*6+1,none⟩=some (.string x.name)∧w.cell? ⟨b,o+q*6+2,none⟩=some c2∧w.cell? ⟨b,o+q*6+3,none⟩=some c3∧w.cell? ⟨b,o+q*6+4,none⟩=some c4∧w.cell? ⟨b,o+q*6+5,none⟩=some c5:=by
 obtain ⟨b,o,cs,e,hb,hc,h1⟩:=L0 6 Zk8 h hx;unfold Z9 at h1;simp only [TS,TP] at h1;obtain ⟨c0,_,rfl,⟨rfl,_⟩,c1,_,rfl,⟨rfl,_⟩,c2,_,rfl,_,c3,_,rfl,_,c4,_,rfl,_,c5,_,rfl,_,rfl⟩:=h1;exact ⟨b,o,_,_,_,_,e,hb,hc 0 _ rfl,hc 1 _ rfl,hc 2 _ rfl,hc 3 _ rfl,hc 4 _ rfl,hc 5 _ rfl⟩
theorem Ygg (k:Int) (nm:ByteArray) (c2 c3 c4 c5:Value) (w:World):Calls Tryz.prog 58 #[.agg #[.int .i64 k,.string nm,c2,c3,c4,c5]] w fun e w'=>e=.returned (.bool (nm.toList == [77,117,116,97,116,105,111,110]))∧Below w.heap.size w w':=by
 have B1:=Hd (blw w (.cells #[.int .i64 k,.string nm,c2,c3,c4,c5] 35));have Z1:=heap_alloc_last w (.cells #[.int .i64 k,.string nm,c2,c3,c4,c5] 35);have y1:(w.alloc (.cells #[.int .i64 k,.string nm,c2,c3,c4,c5] 35)).cell? ⟨w.heap.size,1,none⟩=some (.string nm):=by simp only [World.cell?];rw [Z1];rfl
 clear Z1
 go_enter Tryz.func58,Tryz.ntmps58
 go_wp2_with fail
 go_ret
 exact ⟨rfl,B1.out⟩
theorem Yl1 (l:List Ih) (A:Option Addr) (c:Nat) (w:World) (hl:l.length≤9223372036854775807) (hA:Xc w (fun b=>b < w.heap.size) (Z5 Z9 l) A):Calls Tryz.prog 90 #[.slice A l.length c,.func (.func 58) #[] #[]] w fun e w'=>∃ z:Int,e=.returned (.int .i64 z)∧(decide (0≤z)=l.any Fj)∧Below w.heap.size w w':=by
 refine cQE (fun Q hQ=>?_);have HQ:=Hd hQ;have HA0:=Hd hA;clear hQ hA
 go_enter Tryz.func90,Tryz.ntmps90
 go_wp2_with fail
 go_loopg [8] l.length (fun g i wx=>∃ q:Nat,q+g=l.length∧i=.int .i64 q∧Below w.heap.size w wx∧(l.take q).any Fj=false)
 case atStart=>exact ⟨0,by omega,rfl,Below.refl _ _,by simp⟩
 case round =>
  obtain ⟨q,hq,rfl,hb,hany⟩:=hrel;have HBB:=Hd hb;have HN:=Hd hany;clear hb hany
  cases gk with
  | zero =>
    obtain rfl:q=l.length:=by omega
    go_wp2_with fail
    exact HQ.out _ _ ⟨-1,rfl,by have h:=HN.out;rw [List.take_length] at h;rw [h];decide,HBB.out⟩
  | succ g =>
    have hql:q < l.length:=by omega
    obtain ⟨b,o,c2,c3,c4,c5,rfl,hbl,g0,g1,g2,g3,g4,g5⟩:=Ye6 HA0.out (List.getElem?_eq_getElem hql);have f0:=(HBB.out.cell (p:=⟨b,_,none⟩) hbl).trans g0;have f1:=(HBB.out.cell (p:=⟨b,_,none⟩) hbl).trans g1;have f2:=(HBB.out.cell (p:=⟨b,_,none⟩) hbl).trans g2;have f3:=(HBB.out.cell (p:=⟨b,_,none⟩) hbl).trans g3;have f4:=(HBB.out.cell (p:=⟨b,_,none⟩) hbl).trans g4;have f5:=(HBB.out.cell (p:=⟨b,_,none⟩) hbl).trans g5;have hqi:(q:Int) < (l.length:Int):=by omega
    have HX:Hid ((l.take (q+1)).any Fj=((l.take q).any Fj || Fj l[q])):=Hd (by rw [List.take_succ_eq_append_getElem hql,List.any_append];simp);have HI:Hid (Fj l[q]=(l[q].name.toList == [77,117,116,97,116,105,111,110])):=Hd (by unfold Fj;rw [show Fw.toList=[77,117,116,97,116,105,111,110] by decide +kernel]);have HM:Hid (Fj l[q]=true→l.any Fj=true):=Hd (fun h=>List.any_eq_true.2 ⟨l[q],List.getElem_mem hql,h⟩);generalize l[q]=x at *;clear g0 g1 g2 g3 g4 g5;go_wp2_with fail
    refine (Ygg x.kind x.name c2 c3 c4 c5 _).mono ?_;rintro e w2 ⟨rfl,hb2⟩;have B2:=Hd (HBB.out.trans (hb2.mono HBB.out.size));clear hb2 f0 f1 f2 f3 f4 f5
    cases ht:(x.name.toList == [77,117,116,97,116,105,111,110]) with
    | true =>
      have HT:=Hd (HM.out (HI.out.trans ht));go_wp2_with fail
      exact HQ.out _ _ ⟨(q:Int),rfl,by rw [HT.out];simp,B2.out⟩
    | false =>
      have HT:=Hd ht;clear ht;go_wp2_with fail
      go_roundg g
      case measure=>omega
      case rel=>exact ⟨q+1,by omega,rfl,B2.out,by rw [HX.out,HN.out,HI.out,HT.out];rfl⟩
theorem Ya2 (l:List Ih) (A:Option Addr) (c:Nat) (w:World) (hl:l.length≤9223372036854775807) (hA:Xc w (fun b=>b < w.heap.size) (Z5 Z9 l) A):Calls Tryz.prog 26 #[.slice A l.length c] w fun e w'=>e=.returned (.tuple #[.string Ye,.string (Ge l)])∧Below w.heap.size w w':=by
 have HI:=Hd (Yl1 l A c w hl hA)
 have HC:Hid (Calls Tryz.prog 57 #[.slice A l.length c,.func (.func 58) #[] #[]] w fun e w'=>e=.returned (.bool (l.any Fj))∧Below w.heap.size w w'):=Hd (by
   go_enter Tryz.func57,Tryz.ntmps57
   go_wp2_with fail
   refine HI.out.mono ?_;rintro e w1 ⟨z,rfl,hz,hb⟩;have B1:=Hd hb;have HZ:=Hd hz;clear hb hz;go_wp2_with fail
   go_ret
   exact ⟨by rw [← HZ.out];rfl,B1.out⟩)
 have HU:Hid (Ge l=if l.any Fj=true then Fw else eB):=Hd rfl;generalize l.any Fj=m at *;clear hA HI
 go_enter Tryz.func26,Tryz.ntmps26
 go_wp2_with fail
 refine HC.out.mono ?_;rintro e w1 ⟨rfl,hb⟩;have B1:=Hd hb;clear hb HC
 cases m with
 | true =>
   go_wp2_with fail
   go_ret2
   exact ⟨by rw [HU.out];rfl,B1.out⟩
 | false =>
   go_wp2_with fail
   go_ret2
   exact ⟨by rw [HU.out];rfl,B1.out⟩
def Yqr (_:World) (_:Nat→Prop) (a:ByteArray × ByteArray) (v:Value):Prop:=v=.tuple #[.string a.1,.string a.2]∧a.1.size≤9000∧a.2.size≤9000
theorem Ybx (d : Nat) (ts:List Tok) (r:Nat) (w:World) (hG:Yn ts) (hR:Rd w r ts d):Calls Tryz.prog 24 #[.pointer (some ⟨r,0,none⟩)] w (Ca r d w Yqr (Yp ts)):=by
 refine cQE (fun Q hQ=>?_);have HQ:=Hd hQ;have K0:=Hd (And.intro hR (Z0.refl r w));have G0:=Hd hG;clear hQ hR hG
 go_enter Tryz.func24,Tryz.ntmps24
 go_wp2_with fail
 refine (Xa r (ts) d 1 omB _ K0.out.1).mono ?_;intro e w1 h
 cases hb:atB 1 omB (ts) with
 | false =>
   rw [hb] at h;simp only [Bool.false_eq_true,if_false] at h;obtain ⟨rfl,m⟩:=h;exact ⟨rfl,HQ.out _ _ (per (by simp only [Yp,Ql,hb,if_false,Bool.false_eq_true]) (K0.out.2.trans m))⟩
 | true =>
   rw [hb] at h;simp only [if_true] at h;obtain ⟨rfl,rr,mm⟩:=h;have E1:=Hd hb;have G1:=Hd (G0.out.sub (Zn hb).1);have K1:=Hd (And.intro rr (K0.out.2.trans mm));clear rr mm hb;go_wp2_with fail
   refine (Xa r (ts.tail) d 2 Gh _ K1.out.1).mono ?_;intro e w2 h
   cases hb:atB 2 Gh (ts.tail) with
   | false =>
     rw [hb] at h;simp only [Bool.false_eq_true,if_false] at h;obtain ⟨rfl,m⟩:=h;exact ⟨rfl,HQ.out _ _ (per (by simp only [Yp,Ql,E1.out,hb,if_true,if_false,Bool.false_eq_true]) (K1.out.2.trans m))⟩
   | true =>
     rw [hb] at h;simp only [if_true] at h;obtain ⟨rfl,rr,mm⟩:=h;have E2:=Hd hb;have G2:=Hd (G1.out.sub (Zn hb).1);have K2:=Hd (And.intro rr (K1.out.2.trans mm));clear rr mm hb;go_wp2_with fail
     refine (Xa r (ts.tail.tail) d 1 Xj _ K2.out.1).mono ?_;intro e w3 h
     cases hb:atB 1 Xj (ts.tail.tail) with
     | false =>
       rw [hb] at h;simp only [Bool.false_eq_true,if_false] at h;obtain ⟨rfl,m⟩:=h;exact ⟨rfl,HQ.out _ _ (per (by simp only [Yp,Ql,E1.out,E2.out,hb,if_true,if_false,Bool.false_eq_true]) (K2.out.2.trans m))⟩
     | true =>
       rw [hb] at h;simp only [if_true] at h;obtain ⟨rfl,rr,mm⟩:=h;have E3:=Hd hb;have G3:=Hd (G2.out.sub (Zn hb).1);have K3:=Hd (And.intro rr (K2.out.2.trans mm));clear rr mm hb;go_wp2_with fail
       refine (Yr r (ts.tail.tail.tail) d _ K3.out.1).mono ?_;intro e w4 h
       cases hn:Zg (ts.tail.tail.tail) with
       | none =>
         rw [hn] at h;obtain ⟨rfl,m⟩:=h;exact ⟨rfl,HQ.out _ _ (per (by simp only [Yp,E1.out,E2.out,E3.out,hn,if_true]) (K3.out.2.trans m))⟩
       | some p =>
         obtain ⟨q,t4⟩:=p;rw [hn] at h;obtain ⟨rfl,rr,mm⟩:=h;have E4:=Hd hn;have Nq:=Hd (G3.out.name hn);have G4:=Hd (G3.out.sub (Zt hn).1);have K4:=Hd (And.intro rr (K3.out.2.trans mm));clear rr mm hn;go_wp2_with fail
         refine (Yg r t4 d 2 Yau _ K4.out.1).mono ?_;intro e w5 h
         cases hb:atB 2 Yau t4 with
         | true =>
           rw [hb] at h;obtain ⟨rfl,rr,mm⟩:=h;rw [Jq hb] at rr;have G5:=Hd (G4.out.sub (Zn hb).1);have E5:=Hd hb;have K5:=Hd (And.intro rr (K4.out.2.trans mm));clear rr mm hb;go_wp2_with fail
           refine (Xa r (t4.tail) d 1 Xj _ K5.out.1).mono ?_;intro e w6 h
           cases hb:atB 1 Xj (t4.tail) with
           | false =>
             rw [hb] at h;simp only [Bool.false_eq_true,if_false] at h;obtain ⟨rfl,m⟩:=h;exact ⟨rfl,HQ.out _ _ (per (by simp only [Yp,Ql,E1.out,E2.out,E3.out,E4.out,E5.out,hb,if_true,if_false,Bool.false_eq_true]) (K5.out.2.trans m))⟩
           | true =>
             rw [hb] at h;simp only [if_true] at h;obtain ⟨rfl,rr,mm⟩:=h;have E6:=Hd hb;have G6:=Hd (G5.out.sub (Zn hb).1);have K6:=Hd (And.intro rr (K5.out.2.trans mm));clear rr mm hb;go_wp2_with fail
             refine (Yr r (t4.tail.tail) d _ K6.out.1).mono ?_;intro e w7 h
             cases hn:Zg (t4.tail.tail) with
             | none =>
               rw [hn] at h;obtain ⟨rfl,m⟩:=h;exact ⟨rfl,HQ.out _ _ (per (by simp only [Yp,Ql,E1.out,E2.out,E3.out,E4.out,E5.out,E6.out,hn,if_true]) (K6.out.2.trans m))⟩
             | some p =>
               obtain ⟨m,t7⟩:=p;rw [hn] at h;obtain ⟨rfl,rr,mm⟩:=h;have E7:=Hd hn;have Nm:=Hd (G6.out.name hn);have G7:=Hd (G6.out.sub (Zt hn).1);have K7:=Hd (And.intro rr (K6.out.2.trans mm));clear rr mm hn;go_wp2_with fail
               refine (Xa r (t7) d 1 cmB _ K7.out.1).mono ?_;intro e w8 h
               cases hb:atB 1 cmB (t7) with
               | false =>
                 rw [hb] at h;simp only [Bool.false_eq_true,if_false] at h;obtain ⟨rfl,m⟩:=h;exact ⟨rfl,HQ.out _ _ (per (by simp only [Yp,Ql,E1.out,E2.out,E3.out,E4.out,E5.out,E6.out,E7.out,hb,if_true,if_false,Bool.false_eq_true]) (K7.out.2.trans m))⟩
               | true =>
                 rw [hb] at h;simp only [if_true] at h;obtain ⟨rfl,rr,mm⟩:=h;have E8:=Hd hb;have G8:=Hd (G7.out.sub (Zn hb).1);have K8:=Hd (And.intro rr (K7.out.2.trans mm));clear rr mm hb;go_wp2_with fail
                 exact HQ.out _ _ (Yy (a:=(q,m)) (by simp only [Yp,Ql,E1.out,E2.out,E3.out,E4.out,E5.out,E6.out,E7.out,E8.out,if_true]) ⟨rfl,Nq.out,Nm.out⟩ K8.out.1 K8.out.2)
         | false =>
           rw [hb] at h;obtain ⟨rfl,rr,mm⟩:=h;rw [Uh hb] at rr;have G5:=G4;have E5:=Hd hb;have K5:=Hd (And.intro rr (K4.out.2.trans mm));clear rr mm hb;go_wp2_with fail
           refine (Xa r (t4) d 1 cmB _ K5.out.1).mono ?_;intro e w6 h
           cases hb:atB 1 cmB (t4) with
           | false =>
             rw [hb] at h;simp only [Bool.false_eq_true,if_false] at h;obtain ⟨rfl,m⟩:=h;exact ⟨rfl,HQ.out _ _ (per (by simp only [Yp,Ql,E1.out,E2.out,E3.out,E4.out,E5.out,hb,if_true,if_false,Bool.false_eq_true]) (K5.out.2.trans m))⟩
           | true =>
             rw [hb] at h;simp only [if_true] at h;obtain ⟨rfl,rr,mm⟩:=h;have E6:=Hd hb;have G6:=Hd (G5.out.sub (Zn hb).1);have K6:=Hd (And.intro rr (K5.out.2.trans mm));clear rr mm hb;go_wp2_with fail
             exact HQ.out _ _ (Yy (a:=(q,eB)) (by simp only [Yp,Ql,E1.out,E2.out,E3.out,E4.out,E5.out,E6.out,if_true,if_false,Bool.false_eq_true]) ⟨rfl,Nq.out,(Nat.zero_le _)⟩ K6.out.1 K6.out.2)
structure RX (ty:TypeId) (n base:Nat) (W:World) (V:Value) (l:TrL) (xs:List Value) (P X:Nat→Prop):Prop where
 own:W.ownsRow base ty n V l.len xs
 val:TLV W P l xs
 bd:∀ b,P b→base≤b∧b < W.heap.size∧V.ownBlock ≠ some b
 inX:∀ b,(P b∨V.ownBlock=some b)→X b
theorem RX.next {ty:TypeId} {n base r:Nat} {W W':World} {V:Value} {l:TrL} {xs:List Value} {P X:Nat→Prop} (h:RX ty n base W V l xs P X) (m:Z0 r W W') (hr:r < base):RX ty n base W' V l xs P X:=
 ⟨Yk h.own m hr,h.val.keep (fun b hb=>⟨hb,m.block b (h.bd b hb).2.1 (fun e=>by have:=(h.bd b hb).1;injection e;omega)⟩),fun b hb=>⟨(h.bd b hb).1,Nat.lt_of_lt_of_le (h.bd b hb).2.1 m.size,(h.bd b hb).2.2⟩,h.inX⟩
theorem RX.start (ty:TypeId) (n base:Nat) (W:World):RX ty n base W (.slice none 0 0) .nil [] (fun _=>False) (fun _=>False):=
 ⟨World.ownsRow_nil _ _ _ _,rfl,fun _ h=>h.elim,fun _ h=>by rcases h with h|h;exact h;cases h⟩
theorem RX.app {ty:TypeId} {n base r cap g:Nat} {w2 w3 w4:World} {V:Value} {l:TrL} {s:TrS} {o:Obj} {xs cs:List Value} {P X:Nat→Prop} (h:RX ty n base w2 V l xs P X) (hbase:base≤w2.heap.size) (m:Z0 r w2 w3) (hr:r < base)
   (hd:TS w3 (fun b=>w2.heap.size≤b∧b < w3.heap.size) s cs) (hown4:w4.ownsRow base ty n (.slice (some ⟨g,0,none⟩) (l.len+1) cap) (l.len+1) (xs++cs)) (hg:(w3.alloc o).grownBy w4 V.ownBlock) (hat:V.ownBlock=some g∨g=(w3.alloc o).heap.size) :
   ∃ P',RX ty n base w4 (.slice (some ⟨g,0,none⟩) (l.len+1) cap) (l.snoc s) (xs++cs) P' (fun b=>X b∨(w2.heap.size≤b∧b < w4.heap.size)):=by
 have hs:=m.size;have hV:∀ k,V.ownBlock=some k→k < w2.heap.size:=fun k hk=>(h.own.lt k hk).2
 obtain ⟨h1,_,h3⟩:=Vu (wr:=w3) (w2:=w3) (w4:=w4) (V:=V) (g:=g) (o:=o) (P:=fun b=>P b∨(w2.heap.size≤b∧b < w3.heap.size)) (base:=base) (Nat.le_trans hbase hs) (fun k hk=>Nat.lt_of_lt_of_le (hV k hk) hs) (fun b hb=>by
   rcases hb with hb|hb
   · exact ⟨(h.bd b hb).1,Nat.lt_of_lt_of_le (h.bd b hb).2.1 hs,(h.bd b hb).2.2⟩
   · exact ⟨Nat.le_trans hbase hb.1,hb.2,fun e=>by have:=hV b e;omega⟩) (Below.refl _ _) hg hat
 have ha:(w3.alloc o).heap.size=w3.heap.size+1:=by simp
 have hs4:=hg.size;refine ⟨_,by rw [TrL.snoc_len];exact hown4,TLV.snoc (TS.keep (fun b hb=>h1 b (.inr hb)) _ _ hd) ((h.val.keep (P':=fun b=>P b∨(w2.heap.size≤b∧b < w3.heap.size)) (fun b hb=>⟨.inl hb,m.block b (h.bd b hb).2.1 (fun e=>by have:=(h.bd b hb).1;injection e;omega)⟩)).keep h1),h3,fun b hb=>?_⟩;rcases hb with hb|hb
 · have h5:=h3 b hb
   rcases hb with (hPb|hPb)|hPb
   · exact .inl (h.inX b (.inl hPb))
   · exact .inr ⟨hPb.1,h5.2.1⟩
   · have h6:=hPb.1;have h7:=hPb.2;omega
 · have hgb:g=b:=by
     have:(Value.slice (some ⟨g,0,none⟩) (l.len+1) cap).ownBlock=some g:=rfl;rw [this] at hb;exact Option.some.inj hb
   subst hgb;rcases hat with hat|hat
   · exact .inl (h.inX g (.inr hat))
   · exact .inr ⟨by omega,(hown4.lt g rfl).2⟩
abbrev Yq7:Obj:=.cells #[.slice none 0 0,.string ⟨#[]⟩,.string ⟨#[]⟩] 25
abbrev Zzy (V:Value) (q m:ByteArray):Obj:=.cells #[V,.string q,.string m] 25
structure SK (w:World) (r:Nat) (W:World) (V:Value) (D:Ub) (xs:List Value) (P X:Nat→Prop):Prop where
 res:W.heap[w.heap.size]? = some Yq7
 loc:W.heap[w.heap.size+1]? = some (Zzy V D.query D.mutation)
 r1:RX 35 6 (w.heap.size+2) W V (Z5 Z9 D.defs) xs P X
 b1:∀ b,X b→w.heap.size+2≤b∧b < W.heap.size
 mv:Z0 r w W
 hr:r < w.heap.size
 lt:w.heap.size+2≤W.heap.size
 qs:D.query.size≤9000
 ms:D.mutation.size≤9000
theorem SK.start (w:World) (r:Nat) (hr:r < w.heap.size):SK w r ((w.alloc Yq7).alloc (Zzy (.slice none 0 0) eB eB)) (.slice none 0 0) ⟨[],eB,eB⟩ [] (fun _=>False) (fun _=>False):=
 ⟨(Below.heap_alloc _ _ _ (by simp)).trans (heap_alloc_new _ _),heap_alloc2_new _ _ _,RX.start _ _ _ _,fun _ h=>h.elim,(Z0.of_below (blw _ _)).trans (Z0.of_below (blw _ _)),hr,by simp,Nat.zero_le _,Nat.zero_le _⟩
theorem SK.next {w:World} {r:Nat} {W W':World} {V:Value} {D:Ub} {xs:List Value} {P X:Nat→Prop} (h:SK w r W V D xs P X) (m:Z0 r W W'):SK w r W' V D xs P X:=
 ⟨m.keep h.res (by have:=h.hr;omega),m.keep h.loc (by have:=h.hr;omega),h.r1.next m (by have:=h.hr;omega),fun b hb=>⟨(h.b1 b hb).1,Nat.lt_of_lt_of_le (h.b1 b hb).2 m.size⟩,h.mv.trans m,h.hr,Nat.le_trans h.lt m.size,h.qs,h.ms⟩
theorem SK.own {w:World} {r:Nat} {W:World} {V:Value} {D:Ub} {xs:List Value} {P X:Nat→Prop} (h:SK w r W V D xs P X):∀ b,V.ownBlock=some b→w.heap.size+2≤b:=fun b hb=>(h.b1 b (h.r1.inX b (.inr hb))).1
theorem SK.grown {w:World} {r:Nat} {w3 w4:World} {V:Value} {D:Ub} {xs:List Value} {P X:Nat→Prop} {o:Obj} {k:Option Nat} (h:SK w r w3 V D xs P X) (hg:(w3.alloc o).grownBy w4 k) (hk:∀ b,k=some b→w.heap.size+2≤b) :
   w4.heap[w.heap.size]? = some Yq7∧w4.heap[w.heap.size+1]? = some (Zzy V D.query D.mutation)∧Z0 r w w4∧w.heap.size+2≤w4.heap.size:=by
 have hlt:=h.lt;have ha:(w3.alloc o).heap.size=w3.heap.size+1:=by simp
 have hs:=hg.size;refine ⟨?_,?_,?_,by omega⟩
 · rw [hg.block _ (by omega) (fun e=>by have:=hk _ e.symm;omega),Below.heap_alloc _ _ _ (by omega)];exact h.res
 · rw [hg.block _ (by omega) (fun e=>by have:=hk _ e.symm;omega),Below.heap_alloc _ _ _ (by omega)];exact h.loc
 · have m:=h.mv.trans (Z0.of_below (blw w3 o))
   exact ⟨hg.os.trans m.os,hg.tape.trans m.tape,hg.output.trans m.output,Nat.le_trans m.size hg.size,fun j hj hn=>(hg.block j (Nat.lt_of_lt_of_le hj m.size) (fun e=>by have:=hk _ e.symm;omega)).trans (m.block j hj hn)⟩
theorem SK.app {w:World} {r g cap:Nat} {w2 w3 w4:World} {V:Value} {D:Ub} {xs:List Value} {P X:Nat→Prop} {o:Obj} {x:Ih} {cs:List Value} (h:SK w r w2 V D xs P X) (m:Z0 r w2 w3) (hd:TS w3 (Y7 w2 w3) (Z9 x) cs)
   (hown4:w4.ownsRow (w.heap.size+2) 35 6 (.slice (some ⟨g,0,none⟩) ((Z5 Z9 D.defs).len+1) cap) ((Z5 Z9 D.defs).len+1) (xs++cs)) (hg:(w3.alloc o).grownBy w4 V.ownBlock) (hat:V.ownBlock=some g∨g=(w3.alloc o).heap.size) :
   ∃ P',SK w r (w4.setCell ⟨w.heap.size+1,0,none⟩ (.slice (some ⟨g,0,none⟩) ((Z5 Z9 D.defs).len+1) cap)) (.slice (some ⟨g,0,none⟩) ((Z5 Z9 D.defs).len+1) cap) ⟨D.defs++[x],D.query,D.mutation⟩ (xs++cs) P' (fun b=>X b∨(w2.heap.size≤b∧b < w4.heap.size)):=by
 have h3:=h.next m;have hr:=h.hr;obtain ⟨P',hR⟩:=h.r1.app h.lt m (by omega) hd hown4 hg hat;obtain ⟨q0,q1,q2,q3⟩:=h3.grown hg h3.own;have hsz:∀ v,(w4.setCell ⟨w.heap.size+1,0,none⟩ v).heap.size=w4.heap.size:=fun v=>by simp [World.setCell]
 have hs:=m.size;have ha:(w3.alloc o).heap.size=w3.heap.size+1:=by simp
 have hs4:=hg.size;refine ⟨P',V6 q0 (by omega),heap_setCell_same _ _ 0 _ _ _ q1,?_,fun b hb=>?_,q2.put (by omega),hr,by rw [hsz];exact q3,h.qs,h.ms⟩
 · rw [show Z5 Z9 (D.defs++[x])=(Z5 Z9 D.defs).snoc (Z9 x) from Zx _ _ _]
   exact hR.next (Z0.set (r:=w.heap.size+1)) (by omega)
 · rw [hsz]
   rcases hb with hb|hb
   · have:=h.b1 b hb;omega
   · have:=h.lt;omega
theorem SK.roots {w:World} {r:Nat} {W:World} {V:Value} {D:Ub} {xs:List Value} {P X:Nat→Prop} (h:SK w r W V D xs P X) (q m:ByteArray) (hq:q.size≤9000) (hm:m.size≤9000):SK w r ((W.setCell ⟨w.heap.size+1,1,none⟩ (.string q)).setCell ⟨w.heap.size+1,2,none⟩ (.string m)) V ⟨D.defs,q,m⟩ xs P X:=by
 have hr:=h.hr;have hsz:((W.setCell ⟨w.heap.size+1,1,none⟩ (.string q)).setCell ⟨w.heap.size+1,2,none⟩ (.string m)).heap.size=W.heap.size:=by simp [World.setCell]
 exact ⟨V6 (V6 h.res (by omega)) (by omega),heap_setCell_same _ _ 2 _ _ _ (heap_setCell_same _ _ 1 _ _ _ h.loc),(h.r1.next (Z0.set (r:=w.heap.size+1)) (by omega)).next (Z0.set (r:=w.heap.size+1)) (by omega),fun b hb=>by rw [hsz];exact h.b1 b hb,(h.mv.put (by omega)).put (by omega),hr,by rw [hsz];exact h.lt,hq,hm⟩
theorem SK.tree {w:World} {r:Nat} {W:World} {V:Value} {D:Ub} {xs:List Value} {P X:Nat→Prop} (h:SK w r W V D xs P X) (h1:D.defs.length≤9223372036854775807):OvS (w.heap.size+1) W (Xw D) [V,.string D.query,.string D.mutation]:=by
 have f1:=(show RTr _ _ _ _ _ _ from ⟨xs,P,h.r1.own,h.r1.val,h.r1.bd⟩:RTr 35 6 (w.heap.size+2) W V (Z5 Z9 D.defs)).fin (by rw [Zl];exact h1);unfold Xw OvS;exact TS.row (TP.keep (fun b hb=>⟨⟨by have:=hb.1;omega,hb.2⟩,rfl⟩) _ _ f1) (TS.str h.qs (TS.str h.ms (TS.nil _ _)))
theorem Zkz:(Tryz.prog.info? 35).map (fun i=>(i.zero,i.size,i.bytes))=some (some (.agg #[.int .i64 0,.string ⟨#[]⟩,.slice none 0 0,.slice none 0 0,.slice none 0 0,.slice none 0 0]),6,120):=by kernel_rfl
theorem Ybr {ts r:List Tok} {l:List ByteArray} (h:Zw ts=.ok (l,r)):r <:+ ts:=by
 unfold Zw at h
 split at h
 · rename_i hb
   exact ((Ee h).trans (Zn hb)).1
 · have e:=(Prod.mk.inj (Except.ok.inj h)).2
   subst e;exact List.suffix_refl _
theorem Yju {d:Nat} {k:Int} {n:ByteArray} {ts r:List Tok} {x:Ih} (h:Uk d k n ts=.ok (x,r)):Sfx r ts:=by
 unfold Uk at h
 split at h
 · cases hf:Zw ts with
   | error x=>rw [hf] at h;cases h
   | ok q =>
     obtain ⟨fs,r1⟩:=q;rw [hf] at h;simp only at h
     split at h
     · rename_i hb
       cases hs:I7 (fdR d) V8 cmB (r1.tail.length+1) [] r1.tail with
       | error x=>rw [hs] at h;cases h
       | ok q =>
         obtain ⟨l,r2⟩:=q;rw [hs] at h;have e:=(Prod.mk.inj (Except.ok.inj h)).2;subst e;exact ((F0 (fun _ _ _ h=>Nu h) _ _ _ _ _ hs).trans (Zn hb)).le (Ybr hf)
     · cases h
 · split at h
   · split at h
     · rename_i hb
       cases hs:Xl Yk2 ts.tail with
       | error x=>rw [hs] at h;cases h
       | ok q =>
         obtain ⟨l,r2⟩:=q;rw [hs] at h;have e:=(Prod.mk.inj (Except.ok.inj h)).2;subst e;exact (Ee hs).trans (Zn hb)
     · cases h
   · split at h
     · split at h
       · rename_i hb
         cases hs:I7 enR V8 cmB (ts.tail.length+1) [] ts.tail with
         | error x=>rw [hs] at h;cases h
         | ok q =>
           obtain ⟨l,r2⟩:=q;rw [hs] at h;have e:=(Prod.mk.inj (Except.ok.inj h)).2;subst e;exact (F0 (fun _ _ _ h=>Zz1 h) _ _ _ _ _ hs).trans (Zn hb)
       · cases h
     · split at h
       · rename_i hb
         cases hs:I7 (W4 d) V8 cmB (ts.tail.length+1) [] ts.tail with
         | error x=>rw [hs] at h;cases h
         | ok q =>
           obtain ⟨l,r2⟩:=q;rw [hs] at h;have e:=(Prod.mk.inj (Except.ok.inj h)).2;subst e;exact (F0 (fun _ _ _ h=>Li h) _ _ _ _ _ hs).trans (Zn hb)
       · cases h
theorem Cd {d:Nat} {ts r:List Tok} {x:Ih} (h:Ut d ts=.ok (x,r)):Sfx r ts:=by
 unfold Ut at h
 cases hn:Zg ts with
 | none=>rw [hn] at h;cases h
 | some q =>
   obtain ⟨n,r1⟩:=q;rw [hn] at h;simp only at h
   split at h
   · cases h
   · cases hm:Zg r1 with
     | none=>rw [hm] at h;cases h
     | some q =>
       obtain ⟨m,r2⟩:=q;rw [hm] at h;exact (Yju h).trans ((Zt hm).trans (Zt hn))
theorem Yj8 {ts r:List Tok} {m:ByteArray} (h:Ql ts=.ok (m,r)):r <:+ ts:=by
 unfold Ql at h
 split at h
 · rename_i hb
   split at h
   · rename_i hc
     cases hn:Zg ts.tail.tail with
     | none=>rw [hn] at h;cases h
     | some q =>
       obtain ⟨n,r1⟩:=q;rw [hn] at h;have e:=(Prod.mk.inj (Except.ok.inj h)).2;subst e;exact ((Zt hn).trans ((Zn hc).trans (Zn hb))).1
   · cases h
 · have e:=(Prod.mk.inj (Except.ok.inj h)).2
   subst e;exact List.suffix_refl _
theorem Mg {ts r:List Tok} {p:ByteArray × ByteArray} (h:Yp ts=.ok (p,r)):Sfx r ts:=by
 unfold Yp at h
 split at h
 · rename_i h1
   split at h
   · rename_i h2
     split at h
     · rename_i h3
       cases hn:Zg ts.tail.tail.tail with
       | none=>rw [hn] at h;cases h
       | some q =>
         obtain ⟨n,r1⟩:=q;rw [hn] at h;simp only at h
         cases hm:Ql r1 with
         | error x=>rw [hm] at h;cases h
         | ok q =>
           obtain ⟨m,r2⟩:=q;rw [hm] at h;simp only at h
           split at h
           · rename_i hc
             have e:=(Prod.mk.inj (Except.ok.inj h)).2;subst e;exact ((Zn hc).le (Yj8 hm)).trans ((Zt hn).trans ((Zn h3).trans ((Zn h2).trans (Zn h1))))
           · cases h
     · cases h
   · cases h
 · cases h
theorem Cz {w:World} {P:Nat→Prop} {a:Ih} {v:Value} (h:N9 Z9 w P a v):∃ (i0:Int) (s1:ByteArray) (A2:Option Addr) (n2 c2:Nat) (A3:Option Addr) (n3 c3:Nat) (A4:Option Addr) (n4 c4:Nat) (A5:Option Addr) (n5 c5:Nat),v=.agg #[.int .i64 i0,.string s1,.slice A2 n2 c2,.slice A3 n3 c3,.slice A4 n4 c4,.slice A5 n5 c5]∧TS w P (Z9 a) [.int .i64 i0,.string s1,.slice A2 n2 c2,.slice A3 n3 c3,.slice A4 n4 c4,.slice A5 n5 c5]:=by
 obtain ⟨cs,rfl,h⟩:=h;have h0:=h;unfold Z9 at h0;simp only [TS,TP] at h0;obtain ⟨c0,_,rfl,⟨rfl,_⟩,c1,_,rfl,⟨rfl,_⟩,c2,_,rfl,⟨A2,k2,rfl,_,_⟩,c3,_,rfl,⟨A3,k3,rfl,_,_⟩,c4,_,rfl,⟨A4,k4,rfl,_,_⟩,c5,_,rfl,⟨A5,k5,rfl,_,_⟩,rfl⟩:=h0;exact ⟨_,_,_,_,_,_,_,_,_,_,_,_,_,_,rfl,h⟩
theorem Zf {w:World} {b:Nat} {z0 z1 z2:Value} {t:TypeId} (h:w.heap[b]? = some (.cells #[z0,z1,z2] t (0,0))):w.cell? ⟨b,0,none⟩=some z0∧w.cell? ⟨b,1,none⟩=some z1∧w.cell? ⟨b,2,none⟩=some z2∧∀ i,w.frozen? ⟨b,i,none⟩=false:=by
 refine ⟨?_,?_,?_,fun i=>?_⟩
 all_goals first|(simp only [World.cell?,h];rfl)|simp [World.frozen?,h]
theorem SK.row {w:World} {r:Nat} {W:World} {A:Option Addr} {n c:Nat} {D:Ub} {xs:List Value} {P X:Nat→Prop} (h:SK w r W (.slice A n c) D xs P X) (h1:D.defs.length≤9223372036854775807):n=D.defs.length∧Xc W (fun b=>b < W.heap.size) (Z5 Z9 D.defs) A:=by
 have f1:=(show RTr _ _ _ _ _ _ from ⟨xs,P,h.r1.own,h.r1.val,h.r1.bd⟩:RTr 35 6 (w.heap.size+2) W (.slice A n c) (Z5 Z9 D.defs)).fin (by rw [Zl];exact h1);unfold TP at f1;obtain ⟨A',c',e,_,hr⟩:=f1;injection e with e1 e2 e3
 subst e1;exact ⟨by rw [e2,Zl],Xc.keep (fun b hb=>⟨hb.2,rfl⟩) _ _ hr⟩
end Go.Proofs.YtkmloefbkgcbkaaGreatDoor
