/- The walk of the landed reader's values, whole. -/
import Derived.Test.YtkmloefbkgcbkaaGreatDoorSr12
namespace Go.Proofs.YtkmloefbkgcbkaaGreatDoor
open Go.RowKit
theorem Zxk:∀ f g,g≤f→Yq1 g∧Yq3 g:=by
 intro f
 induction f with
 | zero =>
   intro g hg;obtain rfl:g=0:=by omega
   exact ⟨fun fx d ts r w hf=>by omega,fun fx d ts r w hf=>by omega⟩
 | succ f ih =>
   intro g hg
   by_cases h:g≤f
   · exact ih g h
   · obtain rfl:g=f+1:=by omega
     exact ⟨Yh1 f (Ydz f (fun k hk=>(ih k (by omega)).1)) (Ygh f (fun k hk=>(ih k (by omega)).2)),Yhm f (ih f (Nat.le_refl _)).1⟩
theorem Yf0 (f:Nat):Yq1 f:=(Zxk f f (Nat.le_refl _)).1
theorem Zve (f:Nat):Yq3 f:=(Zxk f f (Nat.le_refl _)).2
mutual
inductive Tr where
 | one (v:Value)
 | row (l:TrL)
inductive TrS where
 | nil
 | cons (x:Tr) (t:TrS)
inductive TrL where
 | nil
 | cons (s:TrS) (t:TrL)
end
def TrS.len:TrS→Nat
 | .nil=>0
 | .cons _ t=>t.len+1
def TrL.len:TrL→Nat
 | .nil=>0
 | .cons _ t=>t.len+1
def TrL.snoc:TrL→TrS→TrL
 | .nil,s=>.cons s .nil
 | .cons u t,s=>.cons u (t.snoc s)
theorem TrL.snoc_len:∀ (l:TrL) (s:TrS),(l.snoc s).len=l.len+1
 | .nil,_=>rfl
 | .cons u t,s=>by rw [TrL.snoc,TrL.len,TrL.len,TrL.snoc_len t s]
def okV:Value→Prop
 | .string s=>s.size≤9223372036854775807
 | _=>True
mutual
def TP (w:World) (P:Nat→Prop):Tr→Value→Prop
 | .one v,c=>c=v∧okV v
 | .row l,c=>∃ A k,c=.slice A l.len k∧l.len≤9223372036854775807∧Xc w P l A
def TS (w:World) (P:Nat→Prop):TrS→List Value→Prop
 | .nil,cs=>cs=[]
 | .cons x t,cs=>∃ c ys,cs=c :: ys∧TP w P x c∧TS w P t ys
def Xc (w:World) (P:Nat→Prop):TrL→Option Addr→Prop
 | .nil,_=>True
 | .cons s t,A=>∃ b o cs,A=some ⟨b,o,none⟩∧P b∧(∀ j u,cs[j]? = some u→w.cell? ⟨b,o+j,none⟩=some u)∧TS w P s cs∧Xc w P t (some ⟨b,o+s.len,none⟩)
end
mutual
theorem TP.keep {w w':World} {P P':Nat→Prop} (hP:∀ b,P b→P' b∧w'.heap[b]? = w.heap[b]?):∀ (x:Tr) (c:Value),TP w P x c→TP w' P' x c
 | .one v,c,h=>by unfold TP at h ⊢;exact h
 | .row l,c,h=>by
   unfold TP at h ⊢;obtain ⟨A,k,h0,h1,h2⟩:=h;exact ⟨A,k,h0,h1,Xc.keep hP l A h2⟩
theorem TS.keep {w w':World} {P P':Nat→Prop} (hP:∀ b,P b→P' b∧w'.heap[b]? = w.heap[b]?):∀ (s:TrS) (cs:List Value),TS w P s cs→TS w' P' s cs
 | .nil,cs,h=>by unfold TS at h ⊢;exact h
 | .cons x t,cs,h=>by
   unfold TS at h ⊢;obtain ⟨c,ys,e,h1,h2⟩:=h;exact ⟨c,ys,e,TP.keep hP x c h1,TS.keep hP t ys h2⟩
theorem Xc.keep {w w':World} {P P':Nat→Prop} (hP:∀ b,P b→P' b∧w'.heap[b]? = w.heap[b]?):∀ (l:TrL) (A:Option Addr),Xc w P l A→Xc w' P' l A
 | .nil,_,_=>by unfold Xc;trivial
 | .cons s t,A,h=>by
   unfold Xc at h ⊢;obtain ⟨b,o,cs,e,hb,hc,h1,h2⟩:=h;exact ⟨b,o,cs,e,(hP b hb).1,fun j u hu=>(World.cell?_of_block (a:=⟨b,o+j,none⟩) (hP b hb).2).trans (hc j u hu),TS.keep hP s cs h1,Xc.keep hP t _ h2⟩
end
theorem TS.len {w:World} {P:Nat→Prop} : ∀ {s:TrS} {cs:List Value},TS w P s cs→cs.length=s.len
 | .nil,cs,h=>by unfold TS at h;subst h;rfl
 | .cons x t,cs,h=>by
   unfold TS at h;obtain ⟨c,ys,rfl,_,h2⟩:=h;rw [List.length_cons,TS.len h2,TrS.len]
def TLV (w:World) (P:Nat→Prop):TrL→List Value→Prop
 | .nil,xs=>xs=[]
 | .cons s t,xs=>∃ cs ys,xs=cs++ys∧TS w P s cs∧TLV w P t ys
theorem TLV.keep {w w':World} {P P':Nat→Prop} (hP:∀ b,P b→P' b∧w'.heap[b]? = w.heap[b]?):∀ {l:TrL} {xs:List Value},TLV w P l xs→TLV w' P' l xs
 | .nil,_,h=>h
 | .cons s t,xs,h=>by
   obtain ⟨cs,ys,e,h1,h2⟩:=h;exact ⟨cs,ys,e,TS.keep hP s cs h1,TLV.keep hP h2⟩
theorem TLV.snoc {w:World} {P:Nat→Prop} {s:TrS} {cs:List Value} (hd:TS w P s cs):∀ {l:TrL} {xs:List Value},TLV w P l xs→TLV w P (l.snoc s) (xs++cs)
 | .nil,xs,h=>by
   have:xs=[]:=h;subst this;exact ⟨cs,[],by simp,hd,rfl⟩
 | .cons u t,xs,h=>by
   obtain ⟨c,ys,rfl,hv,ht⟩:=h;exact ⟨c,ys++cs,by simp,hv,TLV.snoc hd ht⟩
theorem Xc.of_cells {w:World} {P:Nat→Prop} {g:Nat} (hg:P g):∀ {l:TrL} {xs:List Value} (i:Nat),TLV w P l xs→(∀ j u,xs[j]? = some u→w.cell? ⟨g,i+j,none⟩=some u)→Xc w P l (some ⟨g,i,none⟩)
 | .nil,_,_,_,_=>by unfold Xc;trivial
 | .cons s t,xs,i,h,hc=>by
   obtain ⟨cs,ys,rfl,hv,ht⟩:=h;unfold Xc;refine ⟨g,i,cs,rfl,hg,fun j u hj=>hc j u ?_,hv,Xc.of_cells hg (i+s.len) ht (fun j u hj=>?_)⟩
   · rw [List.getElem?_append_left (List.getElem?_eq_some_iff.1 hj).1];exact hj
   · have:=hc (s.len+j) u (by rw [← hv.len,List.getElem?_append_right (by omega)];simpa using hj)
     rwa [← Nat.add_assoc] at this
theorem Ypv {w:World} {base n:Nat} {ty:TypeId} {V:Value} {P:Nat→Prop} {l:TrL} {xs:List Value} (h:w.ownsRow base ty n V l.len xs) (hv:TLV w P l xs) :
   ∃ A c,V=.slice A l.len c∧Xc w (fun b=>P b∨V.ownBlock=some b) l A:=by
 rcases h.2 with ⟨hV,hn⟩|⟨g,c,cur,hV,_⟩
 · refine ⟨none,0,by rw [hV,hn],?_⟩
   cases l with
   | nil=>unfold Xc;trivial
   | cons v t=>simp [TrL.len] at hn
 · have hg:V.ownBlock=some g:=by rw [hV];rfl
   refine ⟨some ⟨g,0,none⟩,c,hV,Xc.of_cells (.inr hg) 0 (hv.keep (fun b hb=>⟨.inl hb,rfl⟩)) (fun j u hj=>?_)⟩;have:=h.cells hg j u hj
   rwa [Pk] at this
def RTr (ty:TypeId) (n base:Nat) (W:World) (V:Value) (l:TrL):Prop:=∃ xs P,W.ownsRow base ty n V l.len xs∧TLV W P l xs∧∀ b,P b→base≤b∧b < W.heap.size∧V.ownBlock ≠ some b
theorem RTr.start (ty:TypeId) (n base:Nat) (W:World):RTr ty n base W (.slice none 0 0) .nil:=⟨[],fun _=>False,World.ownsRow_nil _ _ _ _,rfl,fun _ h=>h.elim⟩
theorem RTr.moved {ty:TypeId} {n base r:Nat} {W W':World} {V:Value} {l:TrL} (h:RTr ty n base W V l) (m:Z0 r W W') (hr:r < base):RTr ty n base W' V l:=by
 obtain ⟨xs,P,h1,h2,h3⟩:=h;refine ⟨xs,P,World.ownsRow.kept h1 m ?_,h2.keep (fun b hb=>⟨hb,m.block b (h3 b hb).2.1 (fun e=>by have:=(h3 b hb).1;injection e;omega)⟩),fun b hb=>⟨(h3 b hb).1,Nat.lt_of_lt_of_le (h3 b hb).2.1 m.size,(h3 b hb).2.2⟩⟩
 cases e:V.ownBlock with
 | none=>exact .inl rfl
 | some k=>exact .inr (fun e'=>by have:=(h1.lt k e).1;injection e';omega)
theorem RTr.shape {ty:TypeId} {n base:Nat} {W:World} {V:Value} {l:TrL} (h:RTr ty n base W V l):∃ A cap,V=.slice A l.len cap:=by
 obtain ⟨xs,P,h1,_⟩:=h;exact Xi h1
theorem Yk {ty:TypeId} {n base r q:Nat} {W W':World} {V:Value} {xs:List Value} (h:W.ownsRow base ty n V q xs) (m:Z0 r W W') (hr:r < base):W'.ownsRow base ty n V q xs:=by
 refine World.ownsRow.kept h m ?_
 cases e:V.ownBlock with
 | none=>exact .inl rfl
 | some k=>exact .inr (fun e'=>by have:=(h.lt k e).1;injection e';omega)
theorem RTr.app {ty:TypeId} {n base r cap g:Nat} {w2 w3 w4:World} {V:Value} {l:TrL} {s:TrS} {o:Obj} {xs cs:List Value} {P:Nat→Prop} (hr:r < base) (hbase:base≤w2.heap.size) (hown:w2.ownsRow base ty n V l.len xs) (hv:TLV w2 P l xs) (hP:∀ b,P b→base≤b∧b < w2.heap.size∧V.ownBlock ≠ some b) (m:Z0 r w2 w3)
  (hd:TS w3 (fun b=>w2.heap.size≤b∧b < w3.heap.size) s cs) (hown4:w4.ownsRow base ty n (.slice (some ⟨g,0,none⟩) (l.len+1) cap) (l.len+1) (xs++cs)) (hg:(w3.alloc o).grownBy w4 V.ownBlock) (hat:V.ownBlock=some g∨g=(w3.alloc o).heap.size) :
  RTr ty n base w4 (.slice (some ⟨g,0,none⟩) (l.len+1) cap) (l.snoc s):=by
 have hs:=m.size;have hV:∀ k,V.ownBlock=some k→k < w2.heap.size:=fun k hk=>(hown.lt k hk).2
 obtain ⟨h1,_,h3⟩:=Vu (wr:=w3) (w2:=w3) (w4:=w4) (V:=V) (g:=g) (o:=o) (P:=fun b=>P b∨(w2.heap.size≤b∧b < w3.heap.size)) (base:=base) (Nat.le_trans hbase hs) (fun k hk=>Nat.lt_of_lt_of_le (hV k hk) hs) (fun b hb=>by
  rcases hb with hb|hb
  · exact ⟨(hP b hb).1,Nat.lt_of_lt_of_le (hP b hb).2.1 hs,(hP b hb).2.2⟩
  · exact ⟨Nat.le_trans hbase hb.1,hb.2,fun e=>by have:=hV b e;omega⟩) (Below.refl _ _) hg hat
 exact ⟨_,_,by rw [TrL.snoc_len];exact hown4,TLV.snoc (TS.keep (fun b hb=>h1 b (.inr hb)) _ _ hd) ((hv.keep (P':=fun b=>P b∨(w2.heap.size≤b∧b < w3.heap.size)) (fun b hb=>⟨.inl hb,m.block b (hP b hb).2.1 (fun e=>by have:=(hP b hb).1;injection e;omega)⟩)).keep h1),h3⟩
theorem RTr.fin {ty:TypeId} {n base:Nat} {W:World} {V:Value} {l:TrL} (h:RTr ty n base W V l) (hl:l.len≤9223372036854775807):TP W (fun b=>base≤b∧b < W.heap.size) (.row l) V:=by
 obtain ⟨xs,P,h1,h2,h3⟩:=h;obtain ⟨A,c,e,h4⟩:=Ypv h1 h2;unfold TP
 exact ⟨A,c,e,hl,Xc.keep (fun b hb=>⟨by
  rcases hb with hb|hb
  · exact ⟨(h3 b hb).1,(h3 b hb).2.1⟩
  · exact h1.lt b hb,rfl⟩) _ _ h4⟩
mutual
def M9:VT→TrS
 | .mk k n s l m=>.cons (.one (.int .i64 k)) (.cons (.one (.int .i64 n)) (.cons (.one (.string s)) (.cons (.row (Zjb l)) (.cons (.row (F2 m)) .nil))))
def Zjb:VL→TrL
 | .nil=>.nil
 | .cons v t=>.cons (M9 v) (Zjb t)
def F2:VM→TrL
 | .nil=>.nil
 | .cons nm v t=>.cons (.cons (.one (.string nm)) (M9 v)) (F2 t)
end
theorem W5:∀ v:VT,(M9 v).len=5
 | .mk _ _ _ _ _=>by rw [M9];rfl
theorem Dr:∀ l:VL,(Zjb l).len=l.len
 | .nil=>by rw [Zjb];rfl
 | .cons v t=>by rw [Zjb,TrL.len,VL.len,Dr t]
theorem Wa:∀ l:VM,(F2 l).len=l.len
 | .nil=>by rw [F2];rfl
 | .cons nm v t=>by rw [F2,TrL.len,VM.len,Wa t]
theorem Fg:∀ (l:VM) (nm:ByteArray) (v:VT),F2 (l.snoc nm v)=(F2 l).snoc (.cons (.one (.string nm)) (M9 v))
 | .nil,nm,v=>by rw [VM.snoc,F2,F2,TrL.snoc,F2]
 | .cons x u t,nm,v=>by rw [VM.snoc,F2,F2,TrL.snoc,Fg t]
def W6:Option Addr→Nat→Option Addr
 | none,_=>none
 | some ⟨b,o,x⟩,n=>some ⟨b,o+n,x⟩
theorem Id (A:Option Addr):W6 A 0=A:=by
 cases A with
 | none=>rfl
 | some a=>rfl
mutual
theorem Ydj {w:World} {P:Nat→Prop} : ∀ (v:VT) (c0 c1 c2 c3 c4:Value),VP w P v c0 c1 c2 c3 c4→TS w P (M9 v) [c0,c1,c2,c3,c4]
 | .mk k n s l m,c0,c1,c2,c3,c4,h=>by
   unfold VP at h;obtain ⟨h0,h1,h2,hs,⟨A,c,h3,g3,h4⟩,A',c',h5,g5,h6⟩:=h;rw [M9];simp only [TS,TP];refine ⟨_,_,rfl,⟨h0,trivial⟩,_,_,rfl,⟨h1,trivial⟩,_,_,rfl,⟨h2,hs⟩,_,_,rfl,⟨A,c,by rw [Dr];exact h3,by rw [Dr];exact g3,?_⟩,_,_,rfl,⟨A',c',by rw [Wa];exact h5,by rw [Wa];exact g5,?_⟩,rfl⟩
   · have:=Ypc l A 0 h4;rwa [Nat.zero_mul,Id] at this
   · have:=Yoo m A' 0 h6;rwa [Nat.zero_mul,Id] at this
theorem Ypc {w:World} {P:Nat→Prop} : ∀ (l:VL) (A:Option Addr) (j:Nat),LP w P l A j→Xc w P (Zjb l) (W6 A (j*5))
 | .nil,_,_,_=>by rw [Zjb];unfold Xc;trivial
 | .cons v t,A,j,h=>by
   unfold LP at h;obtain ⟨⟨b,o,c0,c1,c2,c3,c4,rfl,hb,hf,hv⟩,ht⟩:=h;rw [Zjb];unfold Xc;refine ⟨b,o+j*5,[c0,c1,c2,c3,c4],rfl,hb,fun i u hi=>?_,Ydj v _ _ _ _ _ hv,?_⟩
   · match i,hi with
     | 0,hi=>cases hi;exact hf.1
     | 1,hi=>cases hi;exact hf.2.1
     | 2,hi=>cases hi;exact hf.2.2.1
     | 3,hi=>cases hi;exact hf.2.2.2.1
     | 4,hi=>cases hi;exact hf.2.2.2.2
   · have:=Ypc t _ (j+1) ht
     rw [W5]
     rwa [show o+j*5+5=o+(j+1)*5 by omega]
theorem Yoo {w:World} {P:Nat→Prop} : ∀ (l:VM) (A:Option Addr) (j:Nat),MP w P l A j→Xc w P (F2 l) (W6 A (j*6))
 | .nil,_,_,_=>by rw [F2];unfold Xc;trivial
 | .cons nm v t,A,j,h=>by
   unfold MP at h;obtain ⟨⟨b,o,c0,c1,c2,c3,c4,rfl,hb,hn,hz,hf,hv⟩,ht⟩:=h;rw [F2];unfold Xc;refine ⟨b,o+j*6,[.string nm,c0,c1,c2,c3,c4],rfl,hb,fun i u hi=>?_,?_,?_⟩
   · match i,hi with
     | 0,hi=>cases hi;exact hn
     | 1,hi=>cases hi;exact hf.1
     | 2,hi=>cases hi;exact hf.2.1
     | 3,hi=>cases hi;exact hf.2.2.1
     | 4,hi=>cases hi;exact hf.2.2.2.1
     | 5,hi=>cases hi;exact hf.2.2.2.2
   · rw [TS]
     exact ⟨_,_,rfl,by unfold TP;exact ⟨rfl,hz⟩,Ydj v _ _ _ _ _ hv⟩
   · have:=Yoo t _ (j+1) ht
     rw [TrS.len,W5]
     rwa [show o+j*6+(5+1)=o+(j+1)*6 by omega]
end
mutual
theorem Yln {w:World} {P:Nat→Prop} : ∀ (v:VT) (cs:List Value),TS w P (M9 v) cs→∃ c0 c1 c2 c3 c4,cs=[c0,c1,c2,c3,c4]∧VP w P v c0 c1 c2 c3 c4
 | .mk k n s l m,cs,h=>by
   rw [M9] at h;simp only [TS,TP] at h;obtain ⟨c0,_,rfl,⟨h0,_⟩,c1,_,rfl,⟨h1,_⟩,c2,_,rfl,⟨h2,hs⟩,c3,_,rfl,⟨A,c,h3,g3,h4⟩,c4,_,rfl,⟨A',c',h5,g5,h6⟩,rfl⟩:=h;rw [Dr] at h3 g3;rw [Wa] at h5 g5;refine ⟨c0,c1,c2,c3,c4,rfl,?_⟩;unfold VP;exact ⟨h0,h1,h2,hs,⟨A,c,h3,g3,Yp3 l A 0 (by rw [Nat.zero_mul,Id];exact h4)⟩,A',c',h5,g5,Yn1 m A' 0 (by rw [Nat.zero_mul,Id];exact h6)⟩
theorem Yp3 {w:World} {P:Nat→Prop} : ∀ (l:VL) (A:Option Addr) (j:Nat),Xc w P (Zjb l) (W6 A (j*5))→LP w P l A j
 | .nil,_,_,_=>by unfold LP;trivial
 | .cons v t,A,j,h=>by
   rw [Zjb] at h;unfold Xc at h;obtain ⟨b,o,cs,e,hb,hc,h1,h2⟩:=h;obtain ⟨c0,c1,c2,c3,c4,rfl,hv⟩:=Yln v cs h1
   cases A with
   | none=>cases e
   | some a =>
     obtain ⟨b',o',x⟩:=a;have e:=Option.some.inj e;injection e with e1 e2 e3
     subst e1 e2 e3;unfold LP;refine ⟨⟨b',o',c0,c1,c2,c3,c4,rfl,hb,⟨hc 0 _ rfl,hc 1 _ rfl,hc 2 _ rfl,hc 3 _ rfl,hc 4 _ rfl⟩,hv⟩,Yp3 t _ (j+1) ?_⟩;rw [W5] at h2
     rwa [show W6 (some (⟨b',o',none⟩:Addr)) ((j+1)*5)=some ⟨b',o'+j*5+5,none⟩ by rw [W6];congr 2;omega]
theorem Yn1 {w:World} {P:Nat→Prop} : ∀ (l:VM) (A:Option Addr) (j:Nat),Xc w P (F2 l) (W6 A (j*6))→MP w P l A j
 | .nil,_,_,_=>by unfold MP;trivial
 | .cons nm v t,A,j,h=>by
   rw [F2] at h;unfold Xc at h;obtain ⟨b,o,cs,e,hb,hc,h1,h2⟩:=h;rw [TS] at h1;obtain ⟨c,ys,rfl,h0,h1⟩:=h1;unfold TP at h0;obtain ⟨rfl,hz⟩:=h0;obtain ⟨c0,c1,c2,c3,c4,rfl,hv⟩:=Yln v ys h1
   cases A with
   | none=>cases e
   | some a =>
     obtain ⟨b',o',x⟩:=a;have e:=Option.some.inj e;injection e with e1 e2 e3
     subst e1 e2 e3;unfold MP;refine ⟨⟨b',o',c0,c1,c2,c3,c4,rfl,hb,hc 0 _ rfl,hz,⟨hc 1 _ rfl,hc 2 _ rfl,hc 3 _ rfl,hc 4 _ rfl,hc 5 _ rfl⟩,hv⟩,Yn1 t _ (j+1) ?_⟩;rw [TrS.len,W5] at h2
     rwa [show W6 (some (⟨b',o',none⟩:Addr)) ((j+1)*6)=some ⟨b',o'+j*6+(5+1),none⟩ by rw [W6];congr 2;omega]
end
abbrev Wg:=ByteArray × VM
mutual
inductive Yqk where
 | mk (kind:Int) (alias name:ByteArray) (args:VM) (dirs:List Wg) (on:ByteArray) (sels:Yna)
inductive Yna where
 | nil
 | cons (x:Yqk) (t:Yna)
end
def Yna.len:Yna→Nat
 | .nil=>0
 | .cons _ t=>t.len+1
def Yna.snoc:Yna→Yqk→Yna
 | .nil,x=>.cons x .nil
 | .cons u t,x=>.cons u (t.snoc x)
structure Cb where
 name:ByteArray
 tn:ByteArray
 tl:Nat
 tm:Nat
 has:Bool
 v:VT
def Z5 {α:Type} (f:α→TrS):List α→TrL
 | []=>.nil
 | a :: t=>.cons (f a) (Z5 f t)
theorem Zl {α:Type} (f:α→TrS):∀ l:List α,(Z5 f l).len=l.length
 | []=>rfl
 | a :: t=>by rw [Z5,TrL.len,Zl f t];rfl
theorem Zx {α:Type} (f:α→TrS):∀ (l:List α) (a:α),Z5 f (l++[a])=(Z5 f l).snoc (f a)
 | [],a=>rfl
 | b :: t,a=>by rw [List.cons_append,Z5,Z5,TrL.snoc,Zx f t]
def Gj (nm:ByteArray) (v:VT):TrS:=.cons (.one (.string nm)) (M9 v)
def Dd (d:Wg):TrS:=.cons (.one (.string d.1)) (.cons (.row (F2 d.2)) .nil)
def Zk (x:Cb):TrS:=.cons (.one (.string x.name)) (.cons (.one (.string x.tn)) (.cons (.one (.int .i64 (x.tl:Int))) (.cons (.one (.int .i64 (x.tm:Int))) (.cons (.one (.bool x.has)) (M9 x.v)))))
def opB:ByteArray:=⟨#[40]⟩
def cpB:ByteArray:=⟨#[41]⟩
def Zzg:ByteArray:=⟨#[64]⟩
def eqB:ByteArray:=⟨#[61]⟩
def Gh:ByteArray:=⟨#[113,117,101,114,121]⟩
def Yau:ByteArray:=⟨#[109,117,116,97,116,105,111,110]⟩
def eB:ByteArray:=⟨#[]⟩
def Im (fx:Bool) (d:Nat) (ts:List Tok):Except Int (VT × List Tok):=F3 (2*ts.length+1) fx d ts
def Co (fx:Bool) (d:Nat) (ts:List Tok):Except Int ((ByteArray × VT) × List Tok):=C9 (2*ts.length+1) fx d ts
def I7 {α ρ:Type} (one:List Tok→Except Int (α × List Tok)) (add:ρ→α→ρ) (e:ByteArray):Nat→ρ→List Tok→Except Int (ρ × List Tok)
 | 0,_,_=>.error 2
 | f+1,acc,ts =>
   match one ts with
   | .error x=>.error x
   | .ok (a,r)=>if atB 1 e r=true then .ok (add acc a,r.tail) else I7 one add e f (add acc a) r
def Zzi (l:VM) (p:ByteArray × VT):VM:=l.snoc p.1 p.2
def V8 {α:Type} (l:List α) (a:α):List α:=l++[a]
def U8 (fx:Bool) (d:Nat) (ts:List Tok):Except Int (VM × List Tok):=
 if atB 1 opB ts=true then I7 (Co fx d) Zzi cpB (ts.tail.length+1) .nil ts.tail else .ok (.nil,ts)
def Gb (fx:Bool) (d:Nat):Nat→List Wg→List Tok→Except Int (List Wg × List Tok)
 | 0,_,_=>.error 2
 | f+1,acc,ts =>
   if atB 1 Zzg ts=true then
    match Zg ts.tail with
    | none=>.error 2
    | some (n,r) =>
      match U8 fx d r with
      | .error x=>.error x
      | .ok (m,r2)=>Gb fx d f (acc++[(n,m)]) r2
   else .ok (acc,ts)
def Dh (fx:Bool) (d:Nat) (ts:List Tok):Except Int (List Wg × List Tok):=Gb fx d (ts.length+1) [] ts
def Qf:VT:=.mk 0 0 eB .nil .nil
def Yi2 (d:Nat) (ts:List Tok):Except Int (Cb × List Tok):=
 if atB 1 J5 ts=true then
  match Zg ts.tail with
  | none=>.error 2
  | some (n,r) =>
    if atB 1 Xj r=true then
     match Zj 4 r.tail with
     | .error x=>.error x
     | .ok (t,r2) =>
       if atB 1 eqB r2=true then
        match Im true d r2.tail with
        | .error x=>.error x
        | .ok (v,r3)=>.ok (⟨n,t.1,t.2.1,t.2.2,true,v⟩,r3)
       else .ok (⟨n,t.1,t.2.1,t.2.2,false,Qf⟩,r2)
    else .error 2
 else .error 2
def Sfx (r ts:List Tok):Prop:=r <:+ ts∧r.length < ts.length
theorem Sfx.trans {a b c:List Tok} (h:Sfx a b) (h':Sfx b c):Sfx a c:=⟨h.1.trans h'.1,Nat.lt_trans h.2 h'.2⟩
theorem Sfx.le {a b c:List Tok} (h:Sfx a b) (h':b <:+ c):Sfx a c:=⟨h.1.trans h',Nat.lt_of_lt_of_le h.2 h'.length_le⟩
theorem Sfx.of {a b c:List Tok} (h:a <:+ b) (h':Sfx b c):Sfx a c:=⟨h.trans h'.1,Nat.lt_of_le_of_lt h.length_le h'.2⟩
theorem Zn {k:Int} {s:ByteArray} {ts:List Tok} (h:atB k s ts=true):Sfx ts.tail ts:=by
 cases ts with
 | nil=>cases h
 | cons t ts=>exact ⟨⟨[t],rfl⟩,Nat.lt_succ_self _⟩
theorem Zt {ts r:List Tok} {s:ByteArray} (h:Zg ts=some (s,r)):Sfx r ts:=by
 cases ts with
 | nil=>cases h
 | cons t ts =>
   change (if t.1=2 then some (t.2,ts) else none)=some (s,r) at h
   split at h
   · have:=(Prod.mk.inj (Option.some.inj h)).2
     subst this;exact ⟨⟨[t],rfl⟩,Nat.lt_succ_self _⟩
   · cases h
theorem Ymt {ts r:List Tok} {v:VT} (h:Zzj ts=.ok (v,r)):Sfx r ts:=by
 cases ts with
 | nil=>cases h
 | cons t ts =>
   unfold Zzj at h;simp only at h
   cases hs:Zv t with
   | none=>rw [hs] at h;cases h
   | some q =>
     rw [hs] at h;have e:=(Prod.mk.inj (Except.ok.inj h)).2;subst e;exact ⟨⟨[t],rfl⟩,Nat.lt_succ_self _⟩
theorem Zxo:∀ f:Nat,
   (∀ fx d ts v r,F3 f fx d ts=.ok (v,r)→Sfx r ts) ∧
   (∀ fx d acc ts l r,Xd f fx d acc ts=.ok (l,r)→Sfx r ts) ∧
   (∀ fx d acc ts l r,Vn f fx d acc ts=.ok (l,r)→Sfx r ts) ∧
   (∀ fx d ts p r,C9 f fx d ts=.ok (p,r)→Sfx r ts):=by
 intro f
 induction f with
 | zero =>
   refine ⟨fun _ _ _ _ _ h=>?_,fun _ _ _ _ _ _ h=>?_,fun _ _ _ _ _ _ h=>?_,fun _ _ _ _ _ h=>?_⟩
   · rw [F3] at h;cases h
   · rw [Xd] at h;cases h
   · rw [Vn] at h;cases h
   · rw [C9] at h;cases h
 | succ f ih =>
   obtain ⟨iv,il,im,ib⟩:=ih;refine ⟨fun fx d ts v r h=>?_,fun fx d acc ts l r h=>?_,fun fx d acc ts l r h=>?_,fun fx d ts p r h=>?_⟩
   · rw [F3] at h
     split at h
     · rename_i ha
       have:=Zn ha
       split at h
       · cases h
       · cases hi:Xd f fx (d+1) .nil ts.tail with
         | error e=>rw [hi] at h;cases h
         | ok q =>
           obtain ⟨l,r'⟩:=q;rw [hi] at h;have h2:=il _ _ _ _ _ _ hi;have e:=(Prod.mk.inj (Except.ok.inj h)).2;subst e;exact h2.trans this
     · split at h
       · rename_i ha
         have:=Zn ha
         split at h
         · cases h
         · cases hi:Vn f fx (d+1) .nil ts.tail with
           | error e=>rw [hi] at h;cases h
           | ok q =>
             obtain ⟨l,r'⟩:=q;rw [hi] at h;have h2:=im _ _ _ _ _ _ hi;have e:=(Prod.mk.inj (Except.ok.inj h)).2;subst e;exact h2.trans this
       · split at h
         · rename_i ha
           have:=Zn (show atB 1 J5 ts=true by cases fx<;>simp_all)
           cases hn:Zg ts.tail with
           | none=>rw [hn] at h;cases h
           | some q =>
             obtain ⟨s,r'⟩:=q;rw [hn] at h;have h2:=Zt hn;have e:=(Prod.mk.inj (Except.ok.inj h)).2;subst e;exact h2.trans this
         · exact Ymt h
   · rw [Xd] at h
     split at h
     · rename_i ha
       have:=Zn ha;have e:=(Prod.mk.inj (Except.ok.inj h)).2;subst e;exact this
     · cases hi:F3 f fx d ts with
       | error e=>rw [hi] at h;cases h
       | ok q =>
         obtain ⟨v,r'⟩:=q;rw [hi] at h;exact (il _ _ _ _ _ _ h).trans (iv _ _ _ _ _ hi)
   · rw [Vn] at h
     split at h
     · rename_i ha
       have:=Zn ha;have e:=(Prod.mk.inj (Except.ok.inj h)).2;subst e;exact this
     · cases hi:C9 f fx d ts with
       | error e=>rw [hi] at h;cases h
       | ok q =>
         obtain ⟨⟨nm,v⟩,r'⟩:=q;rw [hi] at h;exact (im _ _ _ _ _ _ h).trans (ib _ _ _ _ _ hi)
   · rw [C9] at h
     cases hn:Zg ts with
     | none=>rw [hn] at h;cases h
     | some q =>
       obtain ⟨nm,r'⟩:=q;rw [hn] at h;have h0:=Zt hn;simp only at h
       split at h
       · rename_i ha
         have h1:=Zn ha
         cases hi:F3 f fx d r'.tail with
         | error e=>rw [hi] at h;cases h
         | ok q =>
           obtain ⟨v,r2⟩:=q;rw [hi] at h;have h2:=iv _ _ _ _ _ hi;have e:=(Prod.mk.inj (Except.ok.inj h)).2;subst e;exact (h2.trans h1).trans h0
       · cases h
theorem Qw {fx:Bool} {d:Nat} {ts r:List Tok} {v:VT} (h:Im fx d ts=.ok (v,r)):Sfx r ts:=(Zxo _).1 _ _ _ _ _ h
theorem B8 {fx:Bool} {d:Nat} {ts r:List Tok} {p:ByteArray × VT} (h:Co fx d ts=.ok (p,r)):Sfx r ts:=(Zxo _).2.2.2 _ _ _ _ _ h
theorem F0 {α ρ:Type} {one:List Tok→Except Int (α × List Tok)} {add:ρ→α→ρ} {e:ByteArray} (H:∀ ts a r,one ts=.ok (a,r)→Sfx r ts):∀ (f:Nat) (acc:ρ) (ts r:List Tok) (l:ρ),I7 one add e f acc ts=.ok (l,r)→Sfx r ts
 | 0,_,_,_,_,h=>by cases h
 | f + 1,acc,ts,r,l,h=>by
   rw [I7] at h
   cases ho:one ts with
   | error x=>rw [ho] at h;cases h
   | ok p =>
     obtain ⟨a,r1⟩:=p;rw [ho] at h;simp only at h
     split at h
     · rename_i ha
       have e:=(Prod.mk.inj (Except.ok.inj h)).2;subst e;exact (Zn ha).trans (H _ _ _ ho)
     · exact (F0 H f _ _ _ _ h).trans (H _ _ _ ho)
theorem Fp {fx:Bool} {d:Nat} {ts r:List Tok} {l:VM} (h:U8 fx d ts=.ok (l,r)):r <:+ ts:=by
 unfold U8 at h
 split at h
 · rename_i ha
   exact ((F0 (fun _ _ _ h=>B8 h) _ _ _ _ _ h).trans (Zn ha)).1
 · have e:=(Prod.mk.inj (Except.ok.inj h)).2
   subst e;exact List.suffix_refl _
theorem Zq1 {fx:Bool} {d:Nat} : ∀ (f:Nat) (acc:List Wg) (ts r:List Tok) (l:List Wg),Gb fx d f acc ts=.ok (l,r)→r <:+ ts
 | 0,_,_,_,_,h=>by cases h
 | f + 1,acc,ts,r,l,h=>by
   rw [Gb] at h
   split at h
   · rename_i ha
     cases hn:Zg ts.tail with
     | none=>rw [hn] at h;cases h
     | some q =>
       obtain ⟨n,r1⟩:=q;rw [hn] at h;simp only at h
       cases hg:U8 fx d r1 with
       | error x=>rw [hg] at h;cases h
       | ok q =>
         obtain ⟨m,r2⟩:=q;rw [hg] at h;exact (Zq1 f _ _ _ _ h).trans ((Fp hg).trans ((Zt hn).1.trans (Zn ha).1))
   · have e:=(Prod.mk.inj (Except.ok.inj h)).2
     subst e;exact List.suffix_refl _
theorem Zxb {fx:Bool} {d:Nat} {ts r:List Tok} {l:List Wg} (h:Dh fx d ts=.ok (l,r)):r <:+ ts:=Zq1 _ _ _ _ _ h
theorem B9:∀ (left:Nat) (ts r:List Tok) (t:ByteArray × Nat × Nat),Zj left ts=.ok (t,r)→Sfx r ts:=by
 have hb:∀ n l m ts,(Ui n l m ts).2 <:+ ts:=by
   intro n l m ts;unfold Ui
   split
   · rename_i ha;exact (Zn ha).1
   · exact List.suffix_refl _
 have hname:∀ left ts r t,atB 1 oB ts=false→Zj left ts=.ok (t,r)→Sfx r ts:=by
   intro left ts r t ho h;rw [Vy ho] at h
   cases hn:Zg ts with
   | none=>rw [hn] at h;cases h
   | some q =>
     obtain ⟨n,r1⟩:=q;rw [hn] at h;have e:=Except.ok.inj h;have e2:(Ui n 0 0 r1).2=r:=by rw [e]
     subst e2;exact Sfx.of (hb _ _ _ _) (Zt hn)
 intro left
 induction left with
 | zero =>
   intro ts r t h
   cases ho:atB 1 oB ts with
   | false=>exact hname _ _ _ _ ho h
   | true=>rw [Es ho] at h;cases h
 | succ left ih =>
   intro ts r t h
   cases ho:atB 1 oB ts with
   | false=>exact hname _ _ _ _ ho h
   | true =>
     rw [Uy ho] at h
     cases ht:Zj left ts.tail with
     | error x=>rw [ht] at h;cases h
     | ok q =>
       obtain ⟨⟨n,l,m⟩,r1⟩:=q;rw [ht] at h;simp only at h
       split at h
       · rename_i hc
         have e:=Except.ok.inj h;have e2:(Ui n (l+1) (2*m) r1.tail).2=r:=by rw [e]
         subst e2;exact Sfx.of (hb _ _ _ _) (((Zn hc).trans (ih _ _ _ ht)).trans (Zn ho))
       · cases h
def Yn (ts:List Tok):Prop:=Zs ts∧Vq ts
theorem Yn.sub {ts r:List Tok} (h:Yn ts) (hs:r <:+ ts):Yn r:=⟨fun t ht=>h.1 t (hs.subset ht),fun t ht=>h.2 t (hs.subset ht)⟩
theorem Yn.name {ts r:List Tok} {s:ByteArray} (h:Yn ts) (hn:Zg ts=some (s,r)):s.size≤9000:=(h.1.name hn).1
end Go.Proofs.YtkmloefbkgcbkaaGreatDoor
