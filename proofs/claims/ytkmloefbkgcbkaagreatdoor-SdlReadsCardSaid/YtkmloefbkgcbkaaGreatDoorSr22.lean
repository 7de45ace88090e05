/- Rows of values: the cells of a level, of what stands within a value; the names of members, one after the other. -/
import Derived.Test.YtkmloefbkgcbkaaGreatDoorSr21
set_option maxRecDepth 100000
set_option maxHeartbeats 4000000
namespace Go.Proofs.YtkmloefbkgcbkaaGreatDoor
open Go.RowKit
def Mw (w:World) (B:Nat) (l:VL) (A:Option Addr):Prop:=∀ (j:Nat) v,l.get j=some v→∃ b o c0 c1 c2 c3 c4,A=some ⟨b,o,none⟩∧b < w.heap.size∧Nj w b (o+j*5) c0 c1 c2 c3 c4∧VAt w B v c0 c1 c2 c3 c4
theorem Mw.of_list {w:World} {B:Nat} {l:VL} {A:Option Addr} (hB:B≤w.heap.size) (h:LAt w B l A 0):Mw w B l A:=fun j v hv=>by
 obtain ⟨b,o,c0,c1,c2,c3,c4,hA,hlt,hf,hV⟩:=LAt.at h hv;rw [Nat.zero_add] at hf;exact ⟨b,o,c0,c1,c2,c3,c4,hA,Nat.lt_of_lt_of_le hlt hB,hf,hV⟩
theorem Mw.below {w w':World} {B:Nat} {l:VL} {A:Option Addr} (h:Mw w B l A) (hB:B≤w.heap.size) (hb:Below w.heap.size w w'):Mw w' B l A:=fun j v hv=>by
 obtain ⟨b,o,c0,c1,c2,c3,c4,hA,hlt,hf,hV⟩:=h j v hv;exact ⟨b,o,c0,c1,c2,c3,c4,hA,Nat.lt_of_lt_of_le hlt hb.size,hf.below hb hlt,VAt.below (hb.mono hB) _ _ _ _ _ _ hV⟩
def U4 (w:World) (B:Nat):VL→List Value→Prop
 | .nil,xs=>xs=[]
 | .cons v t,xs=>∃ c0 c1 c2 c3 c4 ys,xs=c0 :: c1 :: c2 :: c3 :: c4 :: ys∧VAt w B v c0 c1 c2 c3 c4∧U4 w B t ys
theorem U4.below {w w':World} {B:Nat} (hb:Below B w w'):∀ {l:VL} {xs:List Value},U4 w B l xs→U4 w' B l xs
 | .nil,_,h=>h
 | .cons v t,xs,h=>by
   obtain ⟨c0,c1,c2,c3,c4,ys,e,hv,ht⟩:=h;exact ⟨c0,c1,c2,c3,c4,ys,e,VAt.below hb _ _ _ _ _ _ hv,U4.below hb ht⟩
theorem U4.len {w:World} {B:Nat} : ∀ {l:VL} {xs:List Value},U4 w B l xs→xs.length=l.len*5
 | .nil,xs,h=>by
   have:xs=[]:=h;rw [this];rfl
 | .cons v t,xs,h=>by
   obtain ⟨c0,c1,c2,c3,c4,ys,rfl,hv,ht⟩:=h;have:=U4.len ht;simp only [List.length_cons,VL.len];omega
theorem U4.app {w:World} {B:Nat} : ∀ {l r:VL} {xs ys:List Value},U4 w B l xs→U4 w B r ys→U4 w B (l.app r) (xs++ys)
 | .nil,r,xs,ys,h,h'=>by
   have:xs=[]:=h;rw [this];exact h'
 | .cons v t,r,xs,ys,h,h'=>by
   obtain ⟨c0,c1,c2,c3,c4,zs,rfl,hv,ht⟩:=h;exact ⟨c0,c1,c2,c3,c4,zs++ys,by simp,hv,U4.app ht h'⟩
theorem VAt.one {w:World} {B:Nat} {v:VT} {c0 c1 c2 c3 c4:Value} (h:VAt w B v c0 c1 c2 c3 c4):c0.oneCell'=true∧c1.oneCell'=true∧c2.oneCell'=true∧c3.oneCell'=true∧c4.oneCell'=true:=by
 obtain ⟨k,n,s,l,m⟩:=v;unfold VAt at h;obtain ⟨rfl,rfl,rfl,_,⟨A,c,rfl,_,_⟩,A',c',rfl,_,_⟩:=h;exact ⟨rfl,rfl,rfl,rfl,rfl⟩
theorem U4.one {w:World} {B:Nat} : ∀ {l:VL} {xs:List Value},U4 w B l xs→∀ u ∈ xs,u.oneCell'=true
 | .nil,xs,h,u,hu=>by
   have:xs=[]:=h;rw [this] at hu;simp at hu
 | .cons v t,xs,h,u,hu=>by
   obtain ⟨c0,c1,c2,c3,c4,ys,rfl,hv,ht⟩:=h;obtain ⟨h0,h1,h2,h3,h4⟩:=hv.one;simp only [List.mem_cons] at hu;rcases hu with rfl|rfl|rfl|rfl|rfl|hu
   · exact h0
   · exact h1
   · exact h2
   · exact h3
   · exact h4
   · exact U4.one ht u hu
theorem U4.get {w:World} {B:Nat} : ∀ {l:VL} {xs:List Value} {j:Nat} {v:VT},U4 w B l xs→l.get j=some v→∃ c0 c1 c2 c3 c4,VAt w B v c0 c1 c2 c3 c4∧xs[j*5]? = some c0∧xs[j*5+1]? = some c1∧xs[j*5+2]? = some c2∧xs[j*5+3]? = some c3∧xs[j*5+4]? = some c4
 | .nil,_,_,_,_,h=>by simp [VL.get] at h
 | .cons u t,xs,0,v,h,hg=>by
   have:u=v:=by simpa [VL.get] using hg
   subst this;obtain ⟨c0,c1,c2,c3,c4,ys,rfl,hv,ht⟩:=h;exact ⟨c0,c1,c2,c3,c4,hv,rfl,rfl,rfl,rfl,rfl⟩
 | .cons u t,xs,j+1,v,h,hg=>by
   obtain ⟨c0,c1,c2,c3,c4,ys,rfl,hv,ht⟩:=h;obtain ⟨d0,d1,d2,d3,d4,hv',h0,h1,h2,h3,h4⟩:=U4.get (l:=t) (j:=j) (v:=v) ht hg;refine ⟨d0,d1,d2,d3,d4,hv',?_,?_,?_,?_,?_⟩
   · rw [show (j+1)*5=j*5+5 by omega];simpa using h0
   · rw [show (j+1)*5+1=(j*5+1)+5 by omega];simpa using h1
   · rw [show (j+1)*5+2=(j*5+2)+5 by omega];simpa using h2
   · rw [show (j+1)*5+3=(j*5+3)+5 by omega];simpa using h3
   · rw [show (j+1)*5+4=(j*5+4)+5 by omega];simpa using h4
theorem Zko {w:World} {B b o:Nat} : ∀ (l:VL) (i:Nat),(∀ (j:Nat) v,l.get j=some v→∃ c0 c1 c2 c3 c4,Nj w b (o+(i+j)*5) c0 c1 c2 c3 c4∧VAt w B v c0 c1 c2 c3 c4)→∃ xs,U4 w B l xs∧∀ j u,xs[j]? = some u→w.cell? ⟨b,o+i*5+j,none⟩=some u
 | .nil,_,_=>⟨[],rfl,fun j u h=>by simp at h⟩
 | .cons v t,i,h=>by
   obtain ⟨c0,c1,c2,c3,c4,hf,hv⟩:=h 0 v rfl
   obtain ⟨xs,hx,hc⟩:=Zko t (i+1) (fun j v hj=>by
     have:=h (j+1) v hj
     rwa [show i+(j+1)=i+1+j by omega] at this)
   refine ⟨c0 :: c1 :: c2 :: c3 :: c4 :: xs,⟨c0,c1,c2,c3,c4,xs,rfl,hv,hx⟩,fun j u hj=>?_⟩;obtain ⟨f0,f1,f2,f3,f4⟩:=hf;rw [Nat.add_zero] at f0 f1 f2 f3 f4
   match j,hj with
   | 0,hj=>cases hj;exact f0
   | 1,hj=>cases hj;exact f1
   | 2,hj=>cases hj;exact f2
   | 3,hj=>cases hj;exact f3
   | 4,hj=>cases hj;exact f4
   | j+5,hj =>
     have:=hc j u (by simpa using hj)
     rwa [show o+(i+1)*5+j=o+i*5+(j+5) by omega] at this
theorem Mw.vals {w:World} {B:Nat} {l:VL} {a:Addr} (h:Mw w B l (some a)):∃ xs,U4 w B l xs∧∀ j u,xs[j]? = some u→w.cell? (a.add j)=some u:=by
 cases hl:l with
 | nil=>exact ⟨[],rfl,fun j u h=>by simp at h⟩
 | cons v t =>
   rw [hl] at h;obtain ⟨b,o,_,_,_,_,_,hA,_,_,_⟩:=h 0 v rfl;have ha:a=⟨b,o,none⟩:=by injection hA
   subst ha
   obtain ⟨xs,hx,hc⟩:=Zko (w:=w) (B:=B) (b:=b) (o:=o) (.cons v t) 0 (fun j v hv=>by
    obtain ⟨b',o',c0,c1,c2,c3,c4,hA',_,hf,hV⟩:=h j v hv;injection hA' with e
    injection e with e1 e2
    subst e1 e2;rw [Nat.zero_add];exact ⟨c0,c1,c2,c3,c4,hf,hV⟩)
   refine ⟨xs,hx,fun j u hj=>?_⟩;rw [Pk];have:=hc j u hj
   rwa [Nat.zero_mul,Nat.add_zero] at this
theorem Yfi {w:World} {base B:Nat} {V:Value} {l:VL} {xs:List Value} (h:w.ownsRow base 94 5 V l.len xs) (hv:U4 w B l xs):∃ A c,V=.slice A l.len c∧Mw w B l A:=by
 obtain ⟨A,c,rfl⟩:=Xi h;refine ⟨A,c,rfl,fun j v hj=>?_⟩;rcases h.2 with ⟨hV,hn⟩|⟨g,cap,cur,hV,_,hg,_,_,_,_⟩
 · have:=VL.nil_of_len hn
   subst this;simp [VL.get] at hj
 · injection hV with e1 e2 e3
   subst e1;obtain ⟨c0,c1,c2,c3,c4,hvj,h0,h1,h2,h3,h4⟩:=hv.get hj
   have hlt:∀ i u,xs[i]? = some u→w.cell? ⟨g,i,none⟩=some u:=fun i u hu=>by
    have hil:=(List.getElem?_eq_some_iff.1 hu).1;rw [h.1] at hil;rw [World.ownsRow.cellAt h i hil,hu]
   have hgs:g < w.heap.size:=(h.lt g rfl).2;exact ⟨g,0,c0,c1,c2,c3,c4,rfl,hgs,⟨by rw [Nat.zero_add];exact hlt _ _ h0,by rw [Nat.zero_add];exact hlt _ _ h1,by rw [Nat.zero_add];exact hlt _ _ h2,by rw [Nat.zero_add];exact hlt _ _ h3,by rw [Nat.zero_add];exact hlt _ _ h4⟩,hvj⟩
def Ia (p:List UInt8→Bool):VM→Nat→Bool
 | _,0=>true
 | .nil,_+1=>true
 | .cons nm _ t,j+1=>p nm.data.toList && Ia p t j
theorem Ol (p:List UInt8→Bool) (m:VM):Ia p m 0=true:=by cases m<;>rfl
theorem D8 (p:List UInt8→Bool):∀ {m:VM} {j:Nat} {nm:ByteArray} {v:VT},m.get j=some (nm,v)→Ia p m (j+1)=(Ia p m j && p nm.data.toList)
 | .nil,_,_,_,h=>by simp [VM.get] at h
 | .cons x u t,0,nm,v,h=>by
   have:x=nm∧u=v:=by simpa [VM.get] using h
   obtain ⟨rfl,rfl⟩:=this
   show (p x.data.toList && Ia p t 0)=(true && p x.data.toList);rw [Ol];simp
 | .cons x u t,j+1,nm,v,h=>by
   rw [Ia,D8 p (m:=t) (j:=j) (v:=v) h,Ia,Bool.and_assoc]
theorem Ab (p:List UInt8→Bool):∀ m:VM,Ia p m m.len=Un p m
 | .nil=>rfl
 | .cons nm v t=>by rw [VM.len,Ia,Ab p t,Un]
theorem Zkx (p:List UInt8→Bool):∀ {m:VM} {j:Nat} {nm:ByteArray} {v:VT},m.get j=some (nm,v)→p nm.data.toList=false→Un p m=false
 | .nil,_,_,_,h,_=>by simp [VM.get] at h
 | .cons x u t,0,nm,v,h,hp=>by
   have:x=nm∧u=v:=by simpa [VM.get] using h
   obtain ⟨rfl,rfl⟩:=this;rw [Un,hp];rfl
 | .cons x u t,j+1,nm,v,h,hp=>by
   rw [Un,Zkx p (m:=t) (j:=j) h hp];simp
theorem Yfn:∀ {m:VM} {j:Nat} {nm:ByteArray} {v:VT},m.get j=some (nm,v)→nm.size≤Ea m∧Uq v≤Ea m:=fun h=>by
 have:=Az h;omega
def Ymv (fn:Nat) (p:List UInt8→Bool):Prop:=(∀ args w,(callFunc fn args).run Tryz.prog w=.ok (.enter fn args) w)∧∀ (s:ByteArray) (w:World),s.size≤1100000→Ve w→Calls Tryz.prog fn #[.string s] w fun e w'=>e=.returned (.bool (p s.data.toList))∧Below w.heap.size w w'
theorem Ye0 (fn:Nat) (p:List UInt8→Bool) (hp:Ymv fn p) (m:VM) (A:Option Addr) (c:Nat) (w:World) (B:Nat) (hB:B≤w.heap.size) (hm:m.len≤9223372036854775807) (hM:MAt w B m A 0) (hz:Ea m≤1100000) (hw:Ve w) :
  Calls Tryz.prog 161 #[.slice A m.len c,.func (.func fn) #[] #[]] w fun e w'=>e=.returned (.bool (Un p m))∧Below w.heap.size w w':=by
 obtain ⟨he,hP⟩:=hp;have HP:=Hd hP;have HM:=Hd hM;have HB0:=Hd hB;have HZ:=Hd hz;have HW:=Hd hw;clear hM hB hP hz hw
 go_enter Tryz.func161,Tryz.ntmps161
 go_wp2_with fail
 go_loopg [9] m.len (fun g i wx=>∃ q:Nat,q+g=m.len∧i=.int .i64 q∧Below w.heap.size w wx∧Aside (Ia p m q=true))
 case atStart=>exact ⟨0,by omega,rfl,Below.refl _ _,Za (Ol _ _)⟩
 case round =>
  obtain ⟨q,hq,rfl,hb,HA⟩:=hrel;have HBB:=Hd hb;clear hb
  cases gk with
  | zero =>
    obtain rfl:q=m.len:=by omega
    have hG:Hid (Un p m=true):=Hd (by rw [← Ab];exact HA);clear HA;go_wp2_with fail
    go_ret
    exact ⟨Z6 hG.out.symm,HBB.out⟩
  | succ g =>
    have hqn:q < m.len:=by omega
    have hqn':(q:Int) < (m.len:Int):=by omega
    obtain ⟨⟨nm,v⟩,hv⟩:=VM.get_lt hqn;have hns:=Nat.le_trans (Yfn hv).1 HZ.out;obtain ⟨b,o,d0,d1,d2,d3,d4,rfl,hblt,hnm,_,hF,hV⟩:=MAt.at (MAt.below (HBB.out.mono HB0.out) _ _ _ HM.out) hv;rw [Nat.zero_add] at hF hnm;have hnx:=Hd (D8 p hv);have hno:=Hd (Zkx p hv);have C:=fun (wx:World) (hx:Below wr.heap.size wr wx)=>Hd (HP.out nm wx hns ((HW.out.below HBB.out).below hx));obtain ⟨vk,vn,vs,vl,vm⟩:=v;unfold VAt at hV;obtain ⟨rfl,rfl,rfl,_,⟨A3,c3',rfl,_,_⟩,A4,c4',rfl,_,_⟩:=hV;obtain ⟨f0,f1,f2,f3,f4⟩:=hF;have hnew:=fun o=>(Below.refl wr.heap.size wr).alloc (Nat.le_refl _) o;have HN:=Hd hnew;clear hnew hv
    cases hpn:p nm.data.toList with
    | true =>
      rw [hpn] at C;have hN:Hid (Ia p m (q+1)=true):=Hd (by rw [hnx.out,HA,hpn];rfl);clear HA hpn hno hnx;go_wp2_with fail
      refine (C _ (HN.out _)).out.mono ?_;rintro e w1 ⟨rfl,hb1⟩;have HB1:=Hd (HBB.out.trans (((HN.out _).trans (hb1.mono (by simp))).mono HBB.out.size));clear hb1 C f0 f1 f2 f3 f4 hnm;go_wp2_with fail
      go_roundg g
      case measure=>omega
      case rel=>exact ⟨q+1,by omega,by go_num,HB1.out,Za hN.out⟩
    | false =>
      rw [hpn] at C;have hN:Hid (Un p m=false):=Hd (hno.out hpn);clear HA hpn hno hnx;go_wp2_with fail
      refine (C _ (HN.out _)).out.mono ?_;rintro e w1 ⟨rfl,hb1⟩;have HB1:=Hd (HBB.out.trans (((HN.out _).trans (hb1.mono (by simp))).mono HBB.out.size));clear hb1 C f0 f1 f2 f3 f4 hnm;go_wp2_with fail
      go_ret
      exact ⟨Z6 hN.out.symm,HB1.out⟩
def Ykg (w:World) (B:Nat) (l:VL) (q:Nat) (xs:List Value):Prop:=∀ (j:Nat) v,j < q→l.get j=some v→∃ c0 c1 c2 c3 c4,VAt w B v c0 c1 c2 c3 c4∧xs[j*5]? = some c0∧xs[j*5+1]? = some c1∧xs[j*5+2]? = some c2∧xs[j*5+3]? = some c3∧xs[j*5+4]? = some c4
def RB (base n G B:Nat) (l:VL) (w:World) (q:Nat):Prop:=∃ xs,w.ownsRow base 94 5 (.slice (some ⟨G,0,none⟩) n n) n xs∧Ykg w B l q xs
theorem Yfk (n:Int) (s:ByteArray) (l:VL) (m:VM):VT.kids (.mk 6 n s l m)=l:=by rw [VT.kids,if_pos rfl]
theorem Zkp (n:Int) (s:ByteArray) (l:VL) (m:VM):VT.kids (.mk 7 n s l m)=m.vals:=by rw [VT.kids,if_neg (by omega),if_pos rfl]
theorem Yb8 (k n:Int) (s:ByteArray) (l:VL) (m:VM) (h6 : ¬ k=6) (h7 : ¬ k=7):VT.kids (.mk k n s l m)=.nil:=by rw [VT.kids,if_neg h6,if_neg h7]
def Yl3 (v:VT):Prop:=∀ (c0 c1 c2 c3 c4:Value) (w:World) (B:Nat),B≤w.heap.size→VAt w B v c0 c1 c2 c3 c4 →
 Calls Tryz.prog 162 #[.agg #[c0,c1,c2,c3,c4]] w fun e w'=>∃ A c,e=.returned (.slice A v.kids.len c)∧Mw w' B v.kids A∧Below w.heap.size w w'
theorem Au {w' w:World} {B:Nat} {v:VT} {l:VL} {A:Option Addr} {c:Nat} (hk:v.kids=l) (hr:Mw w' B l A) (hb:Below w.heap.size w w'):∃ A' c',Ending.returned (.slice A l.len c)=.returned (.slice A' v.kids.len c')∧Mw w' B v.kids A'∧Below w.heap.size w w':=
 ⟨A,c,by rw [hk],by rw [hk];exact hr,hb⟩
theorem Fl {w:World} {base:Nat} {e:TypeId} {sz n cap g:Nat} {xs:List Value} (h:w.ownsRow base e sz (.slice (some ⟨g,0,none⟩) n cap) n xs) (i:Nat):w.frozen? ⟨g,i,none⟩=false:=by
 rcases h.2 with ⟨h',_⟩|⟨g',cap',cur,h',_,hg,_⟩
 · simp at h'
 · injection h' with e1 e2 e3
   injection e1 with e1
   injection e1 with e1
   subst e1;simp [World.frozen?,hg]
theorem VL.lt_get:∀ {l:VL} {j:Nat} {v:VT},l.get j=some v→j < l.len
 | .nil,_,_,h=>by simp [VL.get] at h
 | .cons _ _,0,_,_=>by simp [VL.len]
 | .cons _ t,j+1,_,h=>by have:=VL.lt_get (l:=t) h;simp [VL.len];omega
theorem Zqu {w wr:World} {g i:Nat} {d0 d1 d2 d3 d4:Value} {o:Obj} (h:Below w.heap.size w wr) (hg:w.heap.size≤g) :
  Below w.heap.size w ((((((wr.setCell ⟨g,i,none⟩ d0).setCell ⟨g,i+1,none⟩ d1).setCell ⟨g,i+2,none⟩ d2).setCell ⟨g,i+3,none⟩ d3).setCell ⟨g,i+4,none⟩ d4).alloc o):=by
 have h0:=((((h.setCell (p:=⟨g,i,none⟩) hg d0).setCell (p:=⟨g,i+1,none⟩) hg d1).setCell (p:=⟨g,i+2,none⟩) hg d2).setCell (p:=⟨g,i+3,none⟩) hg d3).setCell (p:=⟨g,i+4,none⟩) hg d4;exact h0.alloc h0.size o
theorem Yz {xs:List Value} {i j:Nat} {u z:Value} (h:i ≠ j) (hx:xs[j]? = some z):(xs.set i u)[j]? = some z:=by rw [List.getElem?_set_ne h];exact hx
theorem Cx {xs:List Value} {i:Nat} {u:Value} (h:i < xs.length):(xs.set i u)[i]? = some u:=by rw [List.getElem?_set_self h]
theorem Rj {w wr:World} {base n g B q:Nat} {l:VL} {v:VT} {xs:List Value} {d0 d1 d2 d3 d4:Value} {o:Obj} (hB:B≤w.heap.size) (hb:Below w.heap.size w wr) (hg:w.heap.size≤g) (hown:wr.ownsRow base 94 5 (.slice (some ⟨g,0,none⟩) n n) n xs) (hf:Ykg wr B l q xs) (hq:q < n) (hv:l.get q=some v) (hV:VAt wr B v d0 d1 d2 d3 d4) :
   RB base n g B l ((((((wr.setCell ⟨g,q*5,none⟩ d0).setCell ⟨g,q*5+1,none⟩ d1).setCell ⟨g,q*5+2,none⟩ d2).setCell ⟨g,q*5+3,none⟩ d3).setCell ⟨g,q*5+4,none⟩ d4).alloc o) (q+1):=by
 have s0:=(hown.stored (q*5) d0).1;have s1:=(s0.stored (q*5+1) d1).1;have s2:=(s1.stored (q*5+2) d2).1;have s3:=(s2.stored (q*5+3) d3).1;have s4:=(s3.stored (q*5+4) d4).1
 have hbw:Below B wr ((((((wr.setCell ⟨g,q*5,none⟩ d0).setCell ⟨g,q*5+1,none⟩ d1).setCell ⟨g,q*5+2,none⟩ d2).setCell ⟨g,q*5+3,none⟩ d3).setCell ⟨g,q*5+4,none⟩ d4).alloc o):=by
   have hgB:B≤g:=Nat.le_trans hB hg;have hBr:B≤wr.heap.size:=Nat.le_trans hB hb.size;have h0:=(((((Below.refl B wr).setCell (p:=⟨g,q*5,none⟩) hgB d0).setCell (p:=⟨g,q*5+1,none⟩) hgB d1).setCell (p:=⟨g,q*5+2,none⟩) hgB d2).setCell (p:=⟨g,q*5+3,none⟩) hgB d3).setCell (p:=⟨g,q*5+4,none⟩) hgB d4;exact h0.alloc (Nat.le_trans hBr h0.size) o
 have hl:=hown.1;refine ⟨_,Yw s4 ((Below.refl _ _).alloc (Nat.le_refl _) o),fun j u hj hu=>?_⟩;rcases Nat.lt_or_ge j q with hjq|hjq
 · obtain ⟨c0,c1,c2,c3,c4,hc,g0,g1,g2,g3,g4⟩:=hf j u hjq hu
   refine ⟨c0,c1,c2,c3,c4,VAt.below hbw _ _ _ _ _ _ hc,?_,?_,?_,?_,?_⟩
   all_goals
     refine Yz (by omega) (Yz (by omega) (Yz (by omega) (Yz (by omega) (Yz (by omega) ?_))))
     assumption
 · obtain rfl:j=q:=by omega
   rw [hv] at hu
   cases hu
   refine ⟨d0,d1,d2,d3,d4,VAt.below hbw _ _ _ _ _ _ hV,?_,?_,?_,?_,?_⟩
   · exact Yz (by omega) (Yz (by omega) (Yz (by omega) (Yz (by omega) (Cx (by omega)))))
   · exact Yz (by omega) (Yz (by omega) (Yz (by omega) (Cx (by simp;omega))))
   · exact Yz (by omega) (Yz (by omega) (Cx (by simp;omega)))
   · exact Yz (by omega) (Cx (by simp;omega))
   · exact Cx (by simp;omega)
theorem RB.row {base n G B:Nat} {l:VL} {w:World} (h:RB base n G B l w n) (hl:l.len=n):Mw w B l (some ⟨G,0,none⟩):=by
 obtain ⟨xs,hown,hf⟩:=h;intro j v hj;have hjn:j < n:=by rw [← hl];exact VL.lt_get hj
 obtain ⟨c0,c1,c2,c3,c4,hv,h0,h1,h2,h3,h4⟩:=hf j v hjn hj
 have hat:∀ i u,xs[i]? = some u→w.cell? ⟨G,i,none⟩=some u:=fun i u hu=>by
  have hil:=(List.getElem?_eq_some_iff.1 hu).1;rw [hown.1] at hil;rw [World.ownsRow.cellAt hown i hil,hu]
 exact ⟨G,0,c0,c1,c2,c3,c4,rfl,(hown.lt _ rfl).2,⟨by rw [Nat.zero_add];exact hat _ _ h0,by rw [Nat.zero_add];exact hat _ _ h1,by rw [Nat.zero_add];exact hat _ _ h2,by rw [Nat.zero_add];exact hat _ _ h3,by rw [Nat.zero_add];exact hat _ _ h4⟩,hv⟩
theorem Zyb (v:VT) (hz:Uq v≤1100000):Yl3 v:=by
 intro c0 c1 c2 c3 c4 w B hB hv;obtain ⟨k,n,s,l,m⟩:=v;have hml:m.len≤1100000:=by rw [Uq] at hz;have:=Ydu m;omega
 unfold VAt at hv;obtain ⟨rfl,rfl,rfl,_,⟨A,c,rfl,hl,hL⟩,A',c',rfl,hm,hM⟩:=hv;have hb0:Below w.heap.size w (w.alloc (.cells #[.int .i64 k,.int .i64 n,.string s,.slice A l.len c,.slice A' m.len c'] 94)):=(Below.refl _ _).alloc (Nat.le_refl _) _;have HB:=Hd hb0;have HB0:=Hd hB;have HL:=Hd hL;have HM:=Hd hM;clear hL hM hB hb0 hz
 by_cases k6:k=6
 · subst k6
   go_enter Tryz.func162,Tryz.ntmps162
   go_wp2_with fail
   go_ret
   exact Au (Yfk _ _ _ _) (Mw.of_list (Nat.le_trans HB0.out HB.out.size) (LAt.below (HB.out.mono HB0.out) _ _ _ HL.out)) HB.out
 · by_cases k7:k=7
   · subst k7
     obtain ⟨i0,hi,hz0,hz1,hz2⟩:=info_parts Qe;clear k6
     go_enter Tryz.func162,Tryz.ntmps162
     have hbox4:Hid ((w.alloc (.cells #[.int .i64 7,.int .i64 n,.string s,.slice A l.len c,.slice A' m.len c'] 94)).cell? ⟨w.heap.size,4,none⟩=some (.slice A' m.len c')):=Hd (by rw [World.cell?_alloc_at _ _ _ _ rfl];rfl)
     go_wp2_with (at_make;refine wpList_make_full _ rfl _ _ 91 rfl w.heap.size 94 i0 _ 5 Tryz.underlying91 hi hz0 hz1 .i64 .i64 _ _ m.len rfl rfl (by first|rfl|omega) (by first|rfl|omega) (by rw [hz2];omega) (by unfold maxLen;omega) (by simp) ?_;intro w2 hown hgr;have hb2:=(Below.refl _ _).grown hgr (Nat.le_refl _) (fun k h=>by cases h);have hc4:w2.cell? ⟨w.heap.size,4,none⟩=some (.slice A' m.len c'):=(hb2.cell (p:=⟨w.heap.size,4,none⟩) (by simp)).trans hbox4.out;have HB2:=Hd (HB.out.trans (hb2.mono HB.out.size));have HO:=Hd hown;clear hown hgr hb2)
     have hsz:(w.alloc (.cells #[.int .i64 7,.int .i64 n,.string s,.slice A l.len c,.slice A' m.len c'] 94)).heap.size=w.heap.size+1:=by simp
     rw [hsz] at HO;clear hsz hc4 hbox4 HB
     go_loopg [21] m.len (fun g i wx=>∃ q:Nat,q+g=m.len∧i=.int .i64 q∧Below w.heap.size w wx∧Aside (RB w.heap.size m.len (w.heap.size+1) B m.vals wx q))
     case atStart=>exact ⟨0,by omega,rfl,HB2.out,Za ⟨_,HO.out,fun j v hj=>absurd hj (Nat.not_lt_zero _)⟩⟩
     case round =>
      obtain ⟨q,hq,rfl,hb,HA⟩:=hrel;have HBB:=Hd hb;clear hb HO HB2
      cases gk with
      | zero =>
        obtain rfl:q=m.len:=by omega
        go_wp2_with fail
        go_ret
        exact ⟨some ⟨w.heap.size+1,0,none⟩,m.len,by rw [Zkp,VM.len_vals];rfl,by rw [Zkp];exact RB.row HA (VM.len_vals m),HBB.out⟩
      | succ g =>
        have hqn:q < m.len:=by omega
        have hqn':(q:Int) < (m.len:Int):=by omega
        obtain ⟨⟨nm,v⟩,hv⟩:=VM.get_lt hqn;obtain ⟨b,o,d0,d1,d2,d3,d4,rfl,hblt,hnm,_,hF,hV⟩:=MAt.at (MAt.below (HBB.out.mono HB0.out) _ _ _ HM.out) hv;rw [Nat.zero_add] at hF hnm;have hV0:=Hd hV;have HV:=Hd (VM.get_vals hv);obtain ⟨vk,vn,vs,vl,vm⟩:=v;unfold VAt at hV;obtain ⟨rfl,rfl,rfl,_,⟨A3,c3',rfl,_,_⟩,A4,c4',rfl,_,_⟩:=hV;obtain ⟨f0,f1,f2,f3,f4⟩:=hF;obtain ⟨xs,hown,hfill⟩:=HA;have hlen:=hown.1;obtain ⟨z0,hz0'⟩:∃ z,xs[q*5]? = some z:=⟨_,List.getElem?_eq_getElem (by omega)⟩;obtain ⟨z1,hz1'⟩:∃ z,xs[q*5+1]? = some z:=⟨_,List.getElem?_eq_getElem (by omega)⟩;obtain ⟨z2,hz2'⟩:∃ z,xs[q*5+2]? = some z:=⟨_,List.getElem?_eq_getElem (by omega)⟩;obtain ⟨z3,hz3'⟩:∃ z,xs[q*5+3]? = some z:=⟨_,List.getElem?_eq_getElem (by omega)⟩;obtain ⟨z4,hz4'⟩:∃ z,xs[q*5+4]? = some z:=⟨_,List.getElem?_eq_getElem (by omega)⟩;have hat:=fun i u (hi:xs[i]? = some u)=>(World.ownsRow.cellAt hown i (by rw [← hlen];exact (List.getElem?_eq_some_iff.1 hi).1)).trans hi;have y0:=hat _ _ hz0';have y1:=hat _ _ hz1';have y2:=hat _ _ hz2';have y3:=hat _ _ hz3';have y4:=hat _ _ hz4';have hGlt:w.heap.size+1 < wr.heap.size:=(hown.lt _ rfl).2;have q0:=Fl hown (q*5);have q1:=Fl hown (q*5+1);have q2:=Fl hown (q*5+2);have q3:=Fl hown (q*5+3);have q4:=Fl hown (q*5+4);have HO:=Hd hown;have HFI:=Hd hfill;have HZ:=Hd (And.intro hz0' (And.intro hz1' (And.intro hz2' (And.intro hz3' hz4'))));clear hat hz0' hz1' hz2' hz3' hz4' hown hfill hlen hv;go_wp2_with fail
        go_roundg g
        case measure=>omega
        case rel=>exact ⟨q+1,by omega,by go_num,Zqu HBB.out (Nat.le_succ _),Za (Rj HB0.out HBB.out (Nat.le_succ _) HO.out HFI.out hqn HV.out hV0.out)⟩
   · have e6:(k == 6)=false:=by simpa using k6
     have e7:(k == 7)=false:=by simpa using k7
     have hk:=Hd (Yb8 k n s l m k6 k7);clear k6 k7
     go_enter Tryz.func162,Tryz.ntmps162
     go_wp2_with fail
     go_ret
     exact Au (c:=0) (A:=none) hk.out (fun j v hj=>by simp [VL.get] at hj) HB.out
theorem Mw.alloc {w:World} {B:Nat} {l:VL} {A:Option Addr} (h:Mw w B l A) (hB:B≤w.heap.size) (o:Obj):Mw (w.alloc o) B l A:=h.below hB ((Below.refl _ _).alloc (Nat.le_refl _) o)
theorem Zjo {a b:Int} (h:a=b):Ending.returned (.int .i64 a)=.returned (.int .i64 b):=by rw [h]
end Go.Proofs.YtkmloefbkgcbkaaGreatDoor
