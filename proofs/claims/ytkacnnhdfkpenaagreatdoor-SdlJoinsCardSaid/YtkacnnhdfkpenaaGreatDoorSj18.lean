/- The walk of the landed reader's values, whole. -/
import Derived.Test.YtkacnnhdfkpenaaGreatDoorSj17
namespace Go.Proofs.YtkacnnhdfkpenaaGreatDoor
open Go.RowKit
theorem vals_all:∀ f g,g≤f→ValC g∧MemC g:=by
 intro f
 induction f with
 | zero =>
   intro g hg
   obtain rfl:g=0:=by omega
   exact ⟨fun fx d ts r w hf=>by omega,fun fx d ts r w hf=>by omega⟩
 | succ f ih =>
   intro g hg
   by_cases h:g≤f
   · exact ih g h
   · obtain rfl:g=f+1:=by omega
     exact ⟨val_step f (plist_any f (fun k hk=>(ih k (by omega)).1)) (pmap_any f (fun k hk=>(ih k (by omega)).2)),mem_step f (ih f (Nat.le_refl _)).1⟩
theorem value_any (f:Nat):ValC f:=(vals_all f f (Nat.le_refl _)).1
theorem member_any (f:Nat):MemC f:=(vals_all f f (Nat.le_refl _)).2
mutual
inductive Tr where
 | one (v:Value)
 | row (l:TrL)
inductive TrS where
 | nil
 | cons (x:Tr) (t:TrS)
inductive TrL where
 | nil
 | cons (s:TrS) (t:TrL)
end
def TrS.len:TrS→Nat
 | .nil=>0
 | .cons _ t=>t.len+1
def TrL.len:TrL→Nat
 | .nil=>0
 | .cons _ t=>t.len+1
def TrL.snoc:TrL→TrS→TrL
 | .nil,s=>.cons s .nil
 | .cons u t,s=>.cons u (t.snoc s)
theorem TrL.snoc_len:∀ (l:TrL) (s:TrS),(l.snoc s).len=l.len+1
 | .nil,_=>rfl
 | .cons u t,s=>by rw [TrL.snoc,TrL.len,TrL.len,TrL.snoc_len t s]
def okV:Value→Prop
 | .string s=>s.size≤9223372036854775807
 | _=>True
mutual
def TP (w:World) (P:Nat→Prop):Tr→Value→Prop
 | .one v,c=>c=v∧okV v
 | .row l,c=>∃ A k,c=.slice A l.len k∧l.len≤9223372036854775807∧RowT w P l A
def TS (w:World) (P:Nat→Prop):TrS→List Value→Prop
 | .nil,cs=>cs=[]
 | .cons x t,cs=>∃ c ys,cs=c :: ys∧TP w P x c∧TS w P t ys
def RowT (w:World) (P:Nat→Prop):TrL→Option Addr→Prop
 | .nil,_=>True
 | .cons s t,A=>∃ b o cs,A=some ⟨b,o,none⟩∧P b∧(∀ j u,cs[j]? = some u→w.cell? ⟨b,o+j,none⟩=some u)∧TS w P s cs∧RowT w P t (some ⟨b,o+s.len,none⟩)
end
mutual
theorem TP.keep {w w':World} {P P':Nat→Prop} (hP:∀ b,P b→P' b∧w'.heap[b]? = w.heap[b]?):∀ (x:Tr) (c:Value),TP w P x c→TP w' P' x c
 | .one v,c,h=>by unfold TP at h ⊢;exact h
 | .row l,c,h=>by
   unfold TP at h ⊢
   obtain ⟨A,k,h0,h1,h2⟩:=h
   exact ⟨A,k,h0,h1,RowT.keep hP l A h2⟩
theorem TS.keep {w w':World} {P P':Nat→Prop} (hP:∀ b,P b→P' b∧w'.heap[b]? = w.heap[b]?):∀ (s:TrS) (cs:List Value),TS w P s cs→TS w' P' s cs
 | .nil,cs,h=>by unfold TS at h ⊢;exact h
 | .cons x t,cs,h=>by
   unfold TS at h ⊢
   obtain ⟨c,ys,e,h1,h2⟩:=h
   exact ⟨c,ys,e,TP.keep hP x c h1,TS.keep hP t ys h2⟩
theorem RowT.keep {w w':World} {P P':Nat→Prop} (hP:∀ b,P b→P' b∧w'.heap[b]? = w.heap[b]?):∀ (l:TrL) (A:Option Addr),RowT w P l A→RowT w' P' l A
 | .nil,_,_=>by unfold RowT;trivial
 | .cons s t,A,h=>by
   unfold RowT at h ⊢
   obtain ⟨b,o,cs,e,hb,hc,h1,h2⟩:=h
   exact ⟨b,o,cs,e,(hP b hb).1,fun j u hu=>(World.cell?_of_block (a:=⟨b,o+j,none⟩) (hP b hb).2).trans (hc j u hu),TS.keep hP s cs h1,RowT.keep hP t _ h2⟩
end
theorem TS.len {w:World} {P:Nat→Prop} : ∀ {s:TrS} {cs:List Value},TS w P s cs→cs.length=s.len
 | .nil,cs,h=>by unfold TS at h;subst h;rfl
 | .cons x t,cs,h=>by
   unfold TS at h
   obtain ⟨c,ys,rfl,_,h2⟩:=h
   rw [List.length_cons,TS.len h2,TrS.len]
def TLV (w:World) (P:Nat→Prop):TrL→List Value→Prop
 | .nil,xs=>xs=[]
 | .cons s t,xs=>∃ cs ys,xs=cs++ys∧TS w P s cs∧TLV w P t ys
theorem TLV.keep {w w':World} {P P':Nat→Prop} (hP:∀ b,P b→P' b∧w'.heap[b]? = w.heap[b]?):∀ {l:TrL} {xs:List Value},TLV w P l xs→TLV w' P' l xs
 | .nil,_,h=>h
 | .cons s t,xs,h=>by
   obtain ⟨cs,ys,e,h1,h2⟩:=h
   exact ⟨cs,ys,e,TS.keep hP s cs h1,TLV.keep hP h2⟩
theorem TLV.snoc {w:World} {P:Nat→Prop} {s:TrS} {cs:List Value} (hd:TS w P s cs):∀ {l:TrL} {xs:List Value},TLV w P l xs→TLV w P (l.snoc s) (xs++cs)
 | .nil,xs,h=>by
   have:xs=[]:=h
   subst this
   exact ⟨cs,[],by simp,hd,rfl⟩
 | .cons u t,xs,h=>by
   obtain ⟨c,ys,rfl,hv,ht⟩:=h
   exact ⟨c,ys++cs,by simp,hv,TLV.snoc hd ht⟩
theorem RowT.of_cells {w:World} {P:Nat→Prop} {g:Nat} (hg:P g):∀ {l:TrL} {xs:List Value} (i:Nat),TLV w P l xs→(∀ j u,xs[j]? = some u→w.cell? ⟨g,i+j,none⟩=some u)→RowT w P l (some ⟨g,i,none⟩)
 | .nil,_,_,_,_=>by unfold RowT;trivial
 | .cons s t,xs,i,h,hc=>by
   obtain ⟨cs,ys,rfl,hv,ht⟩:=h
   unfold RowT
   refine ⟨g,i,cs,rfl,hg,fun j u hj=>hc j u ?_,hv,RowT.of_cells hg (i+s.len) ht (fun j u hj=>?_)⟩
   · rw [List.getElem?_append_left (List.getElem?_eq_some_iff.1 hj).1];exact hj
   · have:=hc (s.len+j) u (by rw [← hv.len,List.getElem?_append_right (by omega)];simpa using hj)
     rwa [← Nat.add_assoc] at this
theorem row_tl {w:World} {base n:Nat} {ty:TypeId} {V:Value} {P:Nat→Prop} {l:TrL} {xs:List Value} (h:w.ownsRow base ty n V l.len xs) (hv:TLV w P l xs) :
   ∃ A c,V=.slice A l.len c∧RowT w (fun b=>P b∨V.ownBlock=some b) l A:=by
 rcases h.2 with ⟨hV,hn⟩|⟨g,c,cur,hV,_⟩
 · refine ⟨none,0,by rw [hV,hn],?_⟩
   cases l with
   | nil=>unfold RowT;trivial
   | cons v t=>simp [TrL.len] at hn
 · have hg:V.ownBlock=some g:=by rw [hV];rfl
   refine ⟨some ⟨g,0,none⟩,c,hV,RowT.of_cells (.inr hg) 0 (hv.keep (fun b hb=>⟨.inl hb,rfl⟩)) (fun j u hj=>?_)⟩
   have:=h.cells hg j u hj
   rwa [add_at] at this
def RTr (ty:TypeId) (n base:Nat) (W:World) (V:Value) (l:TrL):Prop:=∃ xs P,W.ownsRow base ty n V l.len xs∧TLV W P l xs∧∀ b,P b→base≤b∧b < W.heap.size∧V.ownBlock ≠ some b
theorem RTr.start (ty:TypeId) (n base:Nat) (W:World):RTr ty n base W (.slice none 0 0) .nil:=⟨[],fun _=>False,World.ownsRow_nil _ _ _ _,rfl,fun _ h=>h.elim⟩
theorem RTr.moved {ty:TypeId} {n base r:Nat} {W W':World} {V:Value} {l:TrL} (h:RTr ty n base W V l) (m:Moved r W W') (hr:r < base):RTr ty n base W' V l:=by
 obtain ⟨xs,P,h1,h2,h3⟩:=h
 refine ⟨xs,P,World.ownsRow.kept h1 m ?_,h2.keep (fun b hb=>⟨hb,m.block b (h3 b hb).2.1 (fun e=>by have:=(h3 b hb).1;injection e;omega)⟩),fun b hb=>⟨(h3 b hb).1,Nat.lt_of_lt_of_le (h3 b hb).2.1 m.size,(h3 b hb).2.2⟩⟩
 cases e:V.ownBlock with
 | none=>exact .inl rfl
 | some k=>exact .inr (fun e'=>by have:=(h1.lt k e).1;injection e';omega)
theorem RTr.shape {ty:TypeId} {n base:Nat} {W:World} {V:Value} {l:TrL} (h:RTr ty n base W V l):∃ A cap,V=.slice A l.len cap:=by
 obtain ⟨xs,P,h1,_⟩:=h
 exact shape_own h1
theorem own_moved {ty:TypeId} {n base r q:Nat} {W W':World} {V:Value} {xs:List Value} (h:W.ownsRow base ty n V q xs) (m:Moved r W W') (hr:r < base):W'.ownsRow base ty n V q xs:=by
 refine World.ownsRow.kept h m ?_
 cases e:V.ownBlock with
 | none=>exact .inl rfl
 | some k=>exact .inr (fun e'=>by have:=(h.lt k e).1;injection e';omega)
theorem RTr.app {ty:TypeId} {n base r cap g:Nat} {w2 w3 w4:World} {V:Value} {l:TrL} {s:TrS} {o:Obj} {xs cs:List Value} {P:Nat→Prop} (hr:r < base) (hbase:base≤w2.heap.size) (hown:w2.ownsRow base ty n V l.len xs) (hv:TLV w2 P l xs) (hP:∀ b,P b→base≤b∧b < w2.heap.size∧V.ownBlock ≠ some b) (m:Moved r w2 w3)
  (hd:TS w3 (fun b=>w2.heap.size≤b∧b < w3.heap.size) s cs) (hown4:w4.ownsRow base ty n (.slice (some ⟨g,0,none⟩) (l.len+1) cap) (l.len+1) (xs++cs)) (hg:(w3.alloc o).grownBy w4 V.ownBlock) (hat:V.ownBlock=some g∨g=(w3.alloc o).heap.size) :
  RTr ty n base w4 (.slice (some ⟨g,0,none⟩) (l.len+1) cap) (l.snoc s):=by
 have hs:=m.size
 have hV:∀ k,V.ownBlock=some k→k < w2.heap.size:=fun k hk=>(hown.lt k hk).2
 obtain ⟨h1,_,h3⟩:=step_blocks (wr:=w3) (w2:=w3) (w4:=w4) (V:=V) (g:=g) (o:=o) (P:=fun b=>P b∨(w2.heap.size≤b∧b < w3.heap.size)) (base:=base) (Nat.le_trans hbase hs) (fun k hk=>Nat.lt_of_lt_of_le (hV k hk) hs) (fun b hb=>by
  rcases hb with hb|hb
  · exact ⟨(hP b hb).1,Nat.lt_of_lt_of_le (hP b hb).2.1 hs,(hP b hb).2.2⟩
  · exact ⟨Nat.le_trans hbase hb.1,hb.2,fun e=>by have:=hV b e;omega⟩) (Below.refl _ _) hg hat
 exact ⟨_,_,by rw [TrL.snoc_len];exact hown4,TLV.snoc (TS.keep (fun b hb=>h1 b (.inr hb)) _ _ hd) ((hv.keep (P':=fun b=>P b∨(w2.heap.size≤b∧b < w3.heap.size)) (fun b hb=>⟨.inl hb,m.block b (hP b hb).2.1 (fun e=>by have:=(hP b hb).1;injection e;omega)⟩)).keep h1),h3⟩
theorem RTr.fin {ty:TypeId} {n base:Nat} {W:World} {V:Value} {l:TrL} (h:RTr ty n base W V l) (hl:l.len≤9223372036854775807):TP W (fun b=>base≤b∧b < W.heap.size) (.row l) V:=by
 obtain ⟨xs,P,h1,h2,h3⟩:=h
 obtain ⟨A,c,e,h4⟩:=row_tl h1 h2
 unfold TP
 exact ⟨A,c,e,hl,RowT.keep (fun b hb=>⟨by
  rcases hb with hb|hb
  · exact ⟨(h3 b hb).1,(h3 b hb).2.1⟩
  · exact h1.lt b hb,rfl⟩) _ _ h4⟩
mutual
def encV:VT→TrS
 | .mk k n s l m=>.cons (.one (.int .i64 k)) (.cons (.one (.int .i64 n)) (.cons (.one (.string s)) (.cons (.row (encL l)) (.cons (.row (encM m)) .nil))))
def encL:VL→TrL
 | .nil=>.nil
 | .cons v t=>.cons (encV v) (encL t)
def encM:VM→TrL
 | .nil=>.nil
 | .cons nm v t=>.cons (.cons (.one (.string nm)) (encV v)) (encM t)
end
theorem encV_len:∀ v:VT,(encV v).len=5
 | .mk _ _ _ _ _=>by rw [encV];rfl
theorem encL_len:∀ l:VL,(encL l).len=l.len
 | .nil=>by rw [encL];rfl
 | .cons v t=>by rw [encL,TrL.len,VL.len,encL_len t]
theorem encM_len:∀ l:VM,(encM l).len=l.len
 | .nil=>by rw [encM];rfl
 | .cons nm v t=>by rw [encM,TrL.len,VM.len,encM_len t]
theorem encM_snoc:∀ (l:VM) (nm:ByteArray) (v:VT),encM (l.snoc nm v)=(encM l).snoc (.cons (.one (.string nm)) (encV v))
 | .nil,nm,v=>by rw [VM.snoc,encM,encM,TrL.snoc,encM]
 | .cons x u t,nm,v=>by rw [VM.snoc,encM,encM,TrL.snoc,encM_snoc t]
def shiftA:Option Addr→Nat→Option Addr
 | none,_=>none
 | some ⟨b,o,x⟩,n=>some ⟨b,o+n,x⟩
theorem shiftA_zero (A:Option Addr):shiftA A 0=A:=by
 cases A with
 | none=>rfl
 | some a=>rfl
mutual
theorem vp_ts {w:World} {P:Nat→Prop} : ∀ (v:VT) (c0 c1 c2 c3 c4:Value),VP w P v c0 c1 c2 c3 c4→TS w P (encV v) [c0,c1,c2,c3,c4]
 | .mk k n s l m,c0,c1,c2,c3,c4,h=>by
   unfold VP at h
   obtain ⟨h0,h1,h2,hs,⟨A,c,h3,g3,h4⟩,A',c',h5,g5,h6⟩:=h
   rw [encV]
   simp only [TS,TP]
   refine ⟨_,_,rfl,⟨h0,trivial⟩,_,_,rfl,⟨h1,trivial⟩,_,_,rfl,⟨h2,hs⟩,_,_,rfl,⟨A,c,by rw [encL_len];exact h3,by rw [encL_len];exact g3,?_⟩,_,_,rfl,⟨A',c',by rw [encM_len];exact h5,by rw [encM_len];exact g5,?_⟩,rfl⟩
   · have:=lp_tl l A 0 h4;rwa [Nat.zero_mul,shiftA_zero] at this
   · have:=mp_tl m A' 0 h6;rwa [Nat.zero_mul,shiftA_zero] at this
theorem lp_tl {w:World} {P:Nat→Prop} : ∀ (l:VL) (A:Option Addr) (j:Nat),LP w P l A j→RowT w P (encL l) (shiftA A (j*5))
 | .nil,_,_,_=>by rw [encL];unfold RowT;trivial
 | .cons v t,A,j,h=>by
   unfold LP at h
   obtain ⟨⟨b,o,c0,c1,c2,c3,c4,rfl,hb,hf,hv⟩,ht⟩:=h
   rw [encL]
   unfold RowT
   refine ⟨b,o+j*5,[c0,c1,c2,c3,c4],rfl,hb,fun i u hi=>?_,vp_ts v _ _ _ _ _ hv,?_⟩
   · match i,hi with
     | 0,hi=>cases hi;exact hf.1
     | 1,hi=>cases hi;exact hf.2.1
     | 2,hi=>cases hi;exact hf.2.2.1
     | 3,hi=>cases hi;exact hf.2.2.2.1
     | 4,hi=>cases hi;exact hf.2.2.2.2
   · have:=lp_tl t _ (j+1) ht
     rw [encV_len]
     rwa [show o+j*5+5=o+(j+1)*5 by omega]
theorem mp_tl {w:World} {P:Nat→Prop} : ∀ (l:VM) (A:Option Addr) (j:Nat),MP w P l A j→RowT w P (encM l) (shiftA A (j*6))
 | .nil,_,_,_=>by rw [encM];unfold RowT;trivial
 | .cons nm v t,A,j,h=>by
   unfold MP at h
   obtain ⟨⟨b,o,c0,c1,c2,c3,c4,rfl,hb,hn,hz,hf,hv⟩,ht⟩:=h
   rw [encM]
   unfold RowT
   refine ⟨b,o+j*6,[.string nm,c0,c1,c2,c3,c4],rfl,hb,fun i u hi=>?_,?_,?_⟩
   · match i,hi with
     | 0,hi=>cases hi;exact hn
     | 1,hi=>cases hi;exact hf.1
     | 2,hi=>cases hi;exact hf.2.1
     | 3,hi=>cases hi;exact hf.2.2.1
     | 4,hi=>cases hi;exact hf.2.2.2.1
     | 5,hi=>cases hi;exact hf.2.2.2.2
   · rw [TS]
     exact ⟨_,_,rfl,by unfold TP;exact ⟨rfl,hz⟩,vp_ts v _ _ _ _ _ hv⟩
   · have:=mp_tl t _ (j+1) ht
     rw [TrS.len,encV_len]
     rwa [show o+j*6+(5+1)=o+(j+1)*6 by omega]
end
mutual
theorem ts_vp {w:World} {P:Nat→Prop} : ∀ (v:VT) (cs:List Value),TS w P (encV v) cs→∃ c0 c1 c2 c3 c4,cs=[c0,c1,c2,c3,c4]∧VP w P v c0 c1 c2 c3 c4
 | .mk k n s l m,cs,h=>by
   rw [encV] at h
   simp only [TS,TP] at h
   obtain ⟨c0,_,rfl,⟨h0,_⟩,c1,_,rfl,⟨h1,_⟩,c2,_,rfl,⟨h2,hs⟩,c3,_,rfl,⟨A,c,h3,g3,h4⟩,c4,_,rfl,⟨A',c',h5,g5,h6⟩,rfl⟩:=h
   rw [encL_len] at h3 g3
   rw [encM_len] at h5 g5
   refine ⟨c0,c1,c2,c3,c4,rfl,?_⟩
   unfold VP
   exact ⟨h0,h1,h2,hs,⟨A,c,h3,g3,tl_lp l A 0 (by rw [Nat.zero_mul,shiftA_zero];exact h4)⟩,A',c',h5,g5,tl_mp m A' 0 (by rw [Nat.zero_mul,shiftA_zero];exact h6)⟩
theorem tl_lp {w:World} {P:Nat→Prop} : ∀ (l:VL) (A:Option Addr) (j:Nat),RowT w P (encL l) (shiftA A (j*5))→LP w P l A j
 | .nil,_,_,_=>by unfold LP;trivial
 | .cons v t,A,j,h=>by
   rw [encL] at h
   unfold RowT at h
   obtain ⟨b,o,cs,e,hb,hc,h1,h2⟩:=h
   obtain ⟨c0,c1,c2,c3,c4,rfl,hv⟩:=ts_vp v cs h1
   cases A with
   | none=>cases e
   | some a =>
     obtain ⟨b',o',x⟩:=a
     have e:=Option.some.inj e
     injection e with e1 e2 e3
     subst e1 e2 e3
     unfold LP
     refine ⟨⟨b',o',c0,c1,c2,c3,c4,rfl,hb,⟨hc 0 _ rfl,hc 1 _ rfl,hc 2 _ rfl,hc 3 _ rfl,hc 4 _ rfl⟩,hv⟩,tl_lp t _ (j+1) ?_⟩
     rw [encV_len] at h2
     rwa [show shiftA (some (⟨b',o',none⟩:Addr)) ((j+1)*5)=some ⟨b',o'+j*5+5,none⟩ by rw [shiftA];congr 2;omega]
theorem tl_mp {w:World} {P:Nat→Prop} : ∀ (l:VM) (A:Option Addr) (j:Nat),RowT w P (encM l) (shiftA A (j*6))→MP w P l A j
 | .nil,_,_,_=>by unfold MP;trivial
 | .cons nm v t,A,j,h=>by
   rw [encM] at h
   unfold RowT at h
   obtain ⟨b,o,cs,e,hb,hc,h1,h2⟩:=h
   rw [TS] at h1
   obtain ⟨c,ys,rfl,h0,h1⟩:=h1
   unfold TP at h0
   obtain ⟨rfl,hz⟩:=h0
   obtain ⟨c0,c1,c2,c3,c4,rfl,hv⟩:=ts_vp v ys h1
   cases A with
   | none=>cases e
   | some a =>
     obtain ⟨b',o',x⟩:=a
     have e:=Option.some.inj e
     injection e with e1 e2 e3
     subst e1 e2 e3
     unfold MP
     refine ⟨⟨b',o',c0,c1,c2,c3,c4,rfl,hb,hc 0 _ rfl,hz,⟨hc 1 _ rfl,hc 2 _ rfl,hc 3 _ rfl,hc 4 _ rfl,hc 5 _ rfl⟩,hv⟩,tl_mp t _ (j+1) ?_⟩
     rw [TrS.len,encV_len] at h2
     rwa [show shiftA (some (⟨b',o',none⟩:Addr)) ((j+1)*6)=some ⟨b',o'+j*6+(5+1),none⟩ by rw [shiftA];congr 2;omega]
end
abbrev DirT:=ByteArray × VM
mutual
inductive SelT where
 | mk (kind:Int) (alias name:ByteArray) (args:VM) (dirs:List DirT) (on:ByteArray) (sels:SelL)
inductive SelL where
 | nil
 | cons (x:SelT) (t:SelL)
end
def SelL.len:SelL→Nat
 | .nil=>0
 | .cons _ t=>t.len+1
def SelL.snoc:SelL→SelT→SelL
 | .nil,x=>.cons x .nil
 | .cons u t,x=>.cons u (t.snoc x)
structure VarT where
 name:ByteArray
 tn:ByteArray
 tl:Nat
 tm:Nat
 has:Bool
 v:VT
structure OpT where
 kind:Int
 name:ByteArray
 vars:List VarT
 dirs:List DirT
 sels:SelL
structure FragT where
 name:ByteArray
 on:ByteArray
 dirs:List DirT
 sels:SelL
def rowOf {α:Type} (f:α→TrS):List α→TrL
 | []=>.nil
 | a :: t=>.cons (f a) (rowOf f t)
theorem rowOf_len {α:Type} (f:α→TrS):∀ l:List α,(rowOf f l).len=l.length
 | []=>rfl
 | a :: t=>by rw [rowOf,TrL.len,rowOf_len f t];rfl
theorem rowOf_snoc {α:Type} (f:α→TrS):∀ (l:List α) (a:α),rowOf f (l++[a])=(rowOf f l).snoc (f a)
 | [],a=>rfl
 | b :: t,a=>by rw [List.cons_append,rowOf,rowOf,TrL.snoc,rowOf_snoc f t]
def encMem (nm:ByteArray) (v:VT):TrS:=.cons (.one (.string nm)) (encV v)
def encD (d:DirT):TrS:=.cons (.one (.string d.1)) (.cons (.row (encM d.2)) .nil)
mutual
def encS:SelT→TrS
 | .mk k a n g d o s=>.cons (.one (.int .i64 k)) (.cons (.one (.string a)) (.cons (.one (.string n)) (.cons (.row (encM g)) (.cons (.row (rowOf encD d)) (.cons (.one (.string o)) (.cons (.row (encSL s)) .nil))))))
def encSL:SelL→TrL
 | .nil=>.nil
 | .cons x t=>.cons (encS x) (encSL t)
end
def encVar (x:VarT):TrS:=.cons (.one (.string x.name)) (.cons (.one (.string x.tn)) (.cons (.one (.int .i64 (x.tl:Int))) (.cons (.one (.int .i64 (x.tm:Int))) (.cons (.one (.bool x.has)) (encV x.v)))))
def encOp (x:OpT):TrS:=.cons (.one (.int .i64 x.kind)) (.cons (.one (.string x.name)) (.cons (.row (rowOf encVar x.vars)) (.cons (.row (rowOf encD x.dirs)) (.cons (.row (encSL x.sels)) .nil))))
def encF (x:FragT):TrS:=.cons (.one (.string x.name)) (.cons (.one (.string x.on)) (.cons (.row (rowOf encD x.dirs)) (.cons (.row (encSL x.sels)) .nil)))
def opB:ByteArray:=⟨#[40]⟩
def cpB:ByteArray:=⟨#[41]⟩
def atmB:ByteArray:=⟨#[64]⟩
def eqB:ByteArray:=⟨#[61]⟩
def queryB:ByteArray:=⟨#[113,117,101,114,121]⟩
def mutB:ByteArray:=⟨#[109,117,116,97,116,105,111,110]⟩
def eB:ByteArray:=⟨#[]⟩
def valD (fx:Bool) (d:Nat) (ts:List Tok):Except Int (VT × List Tok):=valR (2*ts.length+1) fx d ts
def memD (fx:Bool) (d:Nat) (ts:List Tok):Except Int ((ByteArray × VT) × List Tok):=memR (2*ts.length+1) fx d ts
def serR {α ρ:Type} (one:List Tok→Except Int (α × List Tok)) (add:ρ→α→ρ) (e:ByteArray):Nat→ρ→List Tok→Except Int (ρ × List Tok)
 | 0,_,_=>.error 2
 | f+1,acc,ts =>
   match one ts with
   | .error x=>.error x
   | .ok (a,r)=>if atB 1 e r=true then .ok (add acc a,r.tail) else serR one add e f (add acc a) r
def addM (l:VM) (p:ByteArray × VT):VM:=l.snoc p.1 p.2
def addL {α:Type} (l:List α) (a:α):List α:=l++[a]
def argsR (fx:Bool) (d:Nat) (ts:List Tok):Except Int (VM × List Tok):=
 if atB 1 opB ts=true then serR (memD fx d) addM cpB (ts.tail.length+1) .nil ts.tail else .ok (.nil,ts)
def dirsF (fx:Bool) (d:Nat):Nat→List DirT→List Tok→Except Int (List DirT × List Tok)
 | 0,_,_=>.error 2
 | f+1,acc,ts =>
   if atB 1 atmB ts=true then
    match nameR ts.tail with
    | none=>.error 2
    | some (n,r) =>
      match argsR fx d r with
      | .error x=>.error x
      | .ok (m,r2)=>dirsF fx d f (acc++[(n,m)]) r2
   else .ok (acc,ts)
def dirsR (fx:Bool) (d:Nat) (ts:List Tok):Except Int (List DirT × List Tok):=dirsF fx d (ts.length+1) [] ts
def zeroT:VT:=.mk 0 0 eB .nil .nil
structure DocT where
 ops:List OpT
 frags:List FragT
def Sfx (r ts:List Tok):Prop:=r <:+ ts∧r.length < ts.length
theorem Sfx.trans {a b c:List Tok} (h:Sfx a b) (h':Sfx b c):Sfx a c:=⟨h.1.trans h'.1,Nat.lt_trans h.2 h'.2⟩
theorem Sfx.le {a b c:List Tok} (h:Sfx a b) (h':b <:+ c):Sfx a c:=⟨h.1.trans h',Nat.lt_of_lt_of_le h.2 h'.length_le⟩
theorem Sfx.of {a b c:List Tok} (h:a <:+ b) (h':Sfx b c):Sfx a c:=⟨h.trans h'.1,Nat.lt_of_le_of_lt h.length_le h'.2⟩
theorem at_sfx {k:Int} {s:ByteArray} {ts:List Tok} (h:atB k s ts=true):Sfx ts.tail ts:=by
 cases ts with
 | nil=>cases h
 | cons t ts=>exact ⟨⟨[t],rfl⟩,Nat.lt_succ_self _⟩
theorem name_sfx {ts r:List Tok} {s:ByteArray} (h:nameR ts=some (s,r)):Sfx r ts:=by
 cases ts with
 | nil=>cases h
 | cons t ts =>
   change (if t.1=2 then some (t.2,ts) else none)=some (s,r) at h
   split at h
   · have:=(Prod.mk.inj (Option.some.inj h)).2
     subst this;exact ⟨⟨[t],rfl⟩,Nat.lt_succ_self _⟩
   · cases h
theorem one_sfx {ts r:List Tok} {v:VT} (h:oneR ts=.ok (v,r)):Sfx r ts:=by
 cases ts with
 | nil=>cases h
 | cons t ts =>
   unfold oneR at h
   simp only at h
   cases hs:singleR t with
   | none=>rw [hs] at h;cases h
   | some q =>
     rw [hs] at h
     have e:=(Prod.mk.inj (Except.ok.inj h)).2
     subst e;exact ⟨⟨[t],rfl⟩,Nat.lt_succ_self _⟩
theorem read_sfx:∀ f:Nat,
   (∀ fx d ts v r,valR f fx d ts=.ok (v,r)→Sfx r ts) ∧
   (∀ fx d acc ts l r,itemsR f fx d acc ts=.ok (l,r)→Sfx r ts) ∧
   (∀ fx d acc ts l r,memsR f fx d acc ts=.ok (l,r)→Sfx r ts) ∧
   (∀ fx d ts p r,memR f fx d ts=.ok (p,r)→Sfx r ts):=by
 intro f
 induction f with
 | zero =>
   refine ⟨fun _ _ _ _ _ h=>?_,fun _ _ _ _ _ _ h=>?_,fun _ _ _ _ _ _ h=>?_,fun _ _ _ _ _ h=>?_⟩
   · rw [valR] at h;cases h
   · rw [itemsR] at h;cases h
   · rw [memsR] at h;cases h
   · rw [memR] at h;cases h
 | succ f ih =>
   obtain ⟨iv,il,im,ib⟩:=ih
   refine ⟨fun fx d ts v r h=>?_,fun fx d acc ts l r h=>?_,fun fx d acc ts l r h=>?_,fun fx d ts p r h=>?_⟩
   · rw [valR] at h
     split at h
     · rename_i ha
       have:=at_sfx ha
       split at h
       · cases h
       · cases hi:itemsR f fx (d+1) .nil ts.tail with
         | error e=>rw [hi] at h;cases h
         | ok q =>
           obtain ⟨l,r'⟩:=q
           rw [hi] at h
           have h2:=il _ _ _ _ _ _ hi
           have e:=(Prod.mk.inj (Except.ok.inj h)).2
           subst e;exact h2.trans this
     · split at h
       · rename_i ha
         have:=at_sfx ha
         split at h
         · cases h
         · cases hi:memsR f fx (d+1) .nil ts.tail with
           | error e=>rw [hi] at h;cases h
           | ok q =>
             obtain ⟨l,r'⟩:=q
             rw [hi] at h
             have h2:=im _ _ _ _ _ _ hi
             have e:=(Prod.mk.inj (Except.ok.inj h)).2
             subst e;exact h2.trans this
       · split at h
         · rename_i ha
           have:=at_sfx (show atB 1 dolB ts=true by cases fx<;>simp_all)
           cases hn:nameR ts.tail with
           | none=>rw [hn] at h;cases h
           | some q =>
             obtain ⟨s,r'⟩:=q
             rw [hn] at h
             have h2:=name_sfx hn
             have e:=(Prod.mk.inj (Except.ok.inj h)).2
             subst e;exact h2.trans this
         · exact one_sfx h
   · rw [itemsR] at h
     split at h
     · rename_i ha
       have:=at_sfx ha
       have e:=(Prod.mk.inj (Except.ok.inj h)).2
       subst e;exact this
     · cases hi:valR f fx d ts with
       | error e=>rw [hi] at h;cases h
       | ok q =>
         obtain ⟨v,r'⟩:=q
         rw [hi] at h
         exact (il _ _ _ _ _ _ h).trans (iv _ _ _ _ _ hi)
   · rw [memsR] at h
     split at h
     · rename_i ha
       have:=at_sfx ha
       have e:=(Prod.mk.inj (Except.ok.inj h)).2
       subst e;exact this
     · cases hi:memR f fx d ts with
       | error e=>rw [hi] at h;cases h
       | ok q =>
         obtain ⟨⟨nm,v⟩,r'⟩:=q
         rw [hi] at h
         exact (im _ _ _ _ _ _ h).trans (ib _ _ _ _ _ hi)
   · rw [memR] at h
     cases hn:nameR ts with
     | none=>rw [hn] at h;cases h
     | some q =>
       obtain ⟨nm,r'⟩:=q
       rw [hn] at h
       have h0:=name_sfx hn
       simp only at h
       split at h
       · rename_i ha
         have h1:=at_sfx ha
         cases hi:valR f fx d r'.tail with
         | error e=>rw [hi] at h;cases h
         | ok q =>
           obtain ⟨v,r2⟩:=q
           rw [hi] at h
           have h2:=iv _ _ _ _ _ hi
           have e:=(Prod.mk.inj (Except.ok.inj h)).2
           subst e;exact (h2.trans h1).trans h0
       · cases h
theorem val_sfx {fx:Bool} {d:Nat} {ts r:List Tok} {v:VT} (h:valD fx d ts=.ok (v,r)):Sfx r ts:=(read_sfx _).1 _ _ _ _ _ h
theorem mem_sfx {fx:Bool} {d:Nat} {ts r:List Tok} {p:ByteArray × VT} (h:memD fx d ts=.ok (p,r)):Sfx r ts:=(read_sfx _).2.2.2 _ _ _ _ _ h
theorem ser_sfx {α ρ:Type} {one:List Tok→Except Int (α × List Tok)} {add:ρ→α→ρ} {e:ByteArray} (H:∀ ts a r,one ts=.ok (a,r)→Sfx r ts):∀ (f:Nat) (acc:ρ) (ts r:List Tok) (l:ρ),serR one add e f acc ts=.ok (l,r)→Sfx r ts
 | 0,_,_,_,_,h=>by cases h
 | f + 1,acc,ts,r,l,h=>by
   rw [serR] at h
   cases ho:one ts with
   | error x=>rw [ho] at h;cases h
   | ok p =>
     obtain ⟨a,r1⟩:=p
     rw [ho] at h
     simp only at h
     split at h
     · rename_i ha
       have e:=(Prod.mk.inj (Except.ok.inj h)).2
       subst e
       exact (at_sfx ha).trans (H _ _ _ ho)
     · exact (ser_sfx H f _ _ _ _ h).trans (H _ _ _ ho)
theorem args_sfx {fx:Bool} {d:Nat} {ts r:List Tok} {l:VM} (h:argsR fx d ts=.ok (l,r)):r <:+ ts:=by
 unfold argsR at h
 split at h
 · rename_i ha
   exact ((ser_sfx (fun _ _ _ h=>mem_sfx h) _ _ _ _ _ h).trans (at_sfx ha)).1
 · have e:=(Prod.mk.inj (Except.ok.inj h)).2
   subst e;exact List.suffix_refl _
theorem dirsF_sfx {fx:Bool} {d:Nat} : ∀ (f:Nat) (acc:List DirT) (ts r:List Tok) (l:List DirT),dirsF fx d f acc ts=.ok (l,r)→r <:+ ts
 | 0,_,_,_,_,h=>by cases h
 | f + 1,acc,ts,r,l,h=>by
   rw [dirsF] at h
   split at h
   · rename_i ha
     cases hn:nameR ts.tail with
     | none=>rw [hn] at h;cases h
     | some q =>
       obtain ⟨n,r1⟩:=q
       rw [hn] at h
       simp only at h
       cases hg:argsR fx d r1 with
       | error x=>rw [hg] at h;cases h
       | ok q =>
         obtain ⟨m,r2⟩:=q
         rw [hg] at h
         exact (dirsF_sfx f _ _ _ _ h).trans ((args_sfx hg).trans ((name_sfx hn).1.trans (at_sfx ha).1))
   · have e:=(Prod.mk.inj (Except.ok.inj h)).2
     subst e;exact List.suffix_refl _
theorem dirs_sfx {fx:Bool} {d:Nat} {ts r:List Tok} {l:List DirT} (h:dirsR fx d ts=.ok (l,r)):r <:+ ts:=dirsF_sfx _ _ _ _ _ h
theorem typ_sfx:∀ (left:Nat) (ts r:List Tok) (t:ByteArray × Nat × Nat),typeR left ts=.ok (t,r)→Sfx r ts:=by
 have hb:∀ n l m ts,(bangR n l m ts).2 <:+ ts:=by
   intro n l m ts
   unfold bangR
   split
   · rename_i ha;exact (at_sfx ha).1
   · exact List.suffix_refl _
 have hname:∀ left ts r t,atB 1 oB ts=false→typeR left ts=.ok (t,r)→Sfx r ts:=by
   intro left ts r t ho h
   rw [typeR_name ho] at h
   cases hn:nameR ts with
   | none=>rw [hn] at h;cases h
   | some q =>
     obtain ⟨n,r1⟩:=q
     rw [hn] at h
     have e:=Except.ok.inj h
     have e2:(bangR n 0 0 r1).2=r:=by rw [e]
     subst e2
     exact Sfx.of (hb _ _ _ _) (name_sfx hn)
 intro left
 induction left with
 | zero =>
   intro ts r t h
   cases ho:atB 1 oB ts with
   | false=>exact hname _ _ _ _ ho h
   | true=>rw [typeR_deep ho] at h;cases h
 | succ left ih =>
   intro ts r t h
   cases ho:atB 1 oB ts with
   | false=>exact hname _ _ _ _ ho h
   | true =>
     rw [typeR_list ho] at h
     cases ht:typeR left ts.tail with
     | error x=>rw [ht] at h;cases h
     | ok q =>
       obtain ⟨⟨n,l,m⟩,r1⟩:=q
       rw [ht] at h
       simp only at h
       split at h
       · rename_i hc
         have e:=Except.ok.inj h
         have e2:(bangR n (l+1) (2*m) r1.tail).2=r:=by rw [e]
         subst e2
         exact Sfx.of (hb _ _ _ _) (((at_sfx hc).trans (ih _ _ _ ht)).trans (at_sfx ho))
       · cases h
def GoodD (ts:List Tok):Prop:=GoodT ts∧NamesT ts
theorem GoodD.sub {ts r:List Tok} (h:GoodD ts) (hs:r <:+ ts):GoodD r:=⟨fun t ht=>h.1 t (hs.subset ht),fun t ht=>h.2 t (hs.subset ht)⟩
theorem GoodD.name {ts r:List Tok} {s:ByteArray} (h:GoodD ts) (hn:nameR ts=some (s,r)):s.size≤9000:=(h.1.name hn).1
end Go.Proofs.YtkacnnhdfkpenaaGreatDoor
