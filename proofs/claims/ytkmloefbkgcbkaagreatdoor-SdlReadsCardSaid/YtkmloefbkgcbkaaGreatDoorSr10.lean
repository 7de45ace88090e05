/- Values whose blocks are named by a predicate: for a copy that is being built; rows of values and of members. -/
import Derived.Laws.OwnMore
import Derived.OwnWalk
import Derived.Test.YtkmloefbkgcbkaaGreatDoorSr8
import Derived.Test.YtkmloefbkgcbkaaGreatDoorSr9
namespace Go.Proofs.YtkmloefbkgcbkaaGreatDoor
open Go.RowKit
mutual
def VP (w:World) (P:Nat→Prop):VT→Value→Value→Value→Value→Value→Prop
 | .mk k n s l m,c0,c1,c2,c3,c4=>c0=.int .i64 k∧c1=.int .i64 n∧c2=.string s∧s.size≤9223372036854775807∧(∃ A c,c3=.slice A l.len c∧l.len≤9223372036854775807∧LP w P l A 0)∧∃ A c,c4=.slice A m.len c∧m.len≤9223372036854775807∧MP w P m A 0
def LP (w:World) (P:Nat→Prop):VL→Option Addr→Nat→Prop
 | .nil,_,_=>True
 | .cons v t,A,j=>(∃ b o c0 c1 c2 c3 c4,A=some ⟨b,o,none⟩∧P b∧Nj w b (o+j*5) c0 c1 c2 c3 c4∧VP w P v c0 c1 c2 c3 c4)∧LP w P t A (j+1)
def MP (w:World) (P:Nat→Prop):VM→Option Addr→Nat→Prop
 | .nil,_,_=>True
 | .cons nm v t,A,j=>(∃ b o c0 c1 c2 c3 c4,A=some ⟨b,o,none⟩∧P b∧w.cell? ⟨b,o+j*6,none⟩=some (.string nm)∧nm.size≤9223372036854775807∧Nj w b (o+j*6+1) c0 c1 c2 c3 c4∧VP w P v c0 c1 c2 c3 c4)∧MP w P t A (j+1)
end
theorem Nj.heap {w w':World} {b o:Nat} {c0 c1 c2 c3 c4:Value} (h:Nj w b o c0 c1 c2 c3 c4) (hb:w'.heap[b]? = w.heap[b]?):Nj w' b o c0 c1 c2 c3 c4:=
 ⟨(World.cell?_of_block (a:=⟨b,_,none⟩) hb).trans h.1,(World.cell?_of_block (a:=⟨b,_,none⟩) hb).trans h.2.1,(World.cell?_of_block (a:=⟨b,_,none⟩) hb).trans h.2.2.1,(World.cell?_of_block (a:=⟨b,_,none⟩) hb).trans h.2.2.2.1,(World.cell?_of_block (a:=⟨b,_,none⟩) hb).trans h.2.2.2.2⟩
mutual
theorem VP.keep {w w':World} {P P':Nat→Prop} (hP:∀ b,P b→P' b∧w'.heap[b]? = w.heap[b]?):∀ (v:VT) (c0 c1 c2 c3 c4:Value),VP w P v c0 c1 c2 c3 c4→VP w' P' v c0 c1 c2 c3 c4
 | .mk k n s l m,c0,c1,c2,c3,c4,h=>by
   unfold VP at h ⊢;obtain ⟨h0,h1,h2,hs,⟨A,c,h3,g3,h4⟩,A',c',h5,g5,h6⟩:=h;exact ⟨h0,h1,h2,hs,⟨A,c,h3,g3,LP.keep hP l A 0 h4⟩,A',c',h5,g5,MP.keep hP m A' 0 h6⟩
theorem LP.keep {w w':World} {P P':Nat→Prop} (hP:∀ b,P b→P' b∧w'.heap[b]? = w.heap[b]?):∀ (l:VL) (A:Option Addr) (j:Nat),LP w P l A j→LP w' P' l A j
 | .nil,_,_,_=>by unfold LP;trivial
 | .cons v t,A,j,h=>by
   unfold LP at h ⊢;obtain ⟨⟨b,o,c0,c1,c2,c3,c4,hA,hlt,hf,hv⟩,ht⟩:=h;exact ⟨⟨b,o,c0,c1,c2,c3,c4,hA,(hP b hlt).1,hf.heap (hP b hlt).2,VP.keep hP v _ _ _ _ _ hv⟩,LP.keep hP t A (j+1) ht⟩
theorem MP.keep {w w':World} {P P':Nat→Prop} (hP:∀ b,P b→P' b∧w'.heap[b]? = w.heap[b]?):∀ (l:VM) (A:Option Addr) (j:Nat),MP w P l A j→MP w' P' l A j
 | .nil,_,_,_=>by unfold MP;trivial
 | .cons nm v t,A,j,h=>by
   unfold MP at h ⊢;obtain ⟨⟨b,o,c0,c1,c2,c3,c4,hA,hlt,hn,hz,hf,hv⟩,ht⟩:=h;exact ⟨⟨b,o,c0,c1,c2,c3,c4,hA,(hP b hlt).1,(World.cell?_of_block (a:=⟨b,_,none⟩) (hP b hlt).2).trans hn,hz,hf.heap (hP b hlt).2,VP.keep hP v _ _ _ _ _ hv⟩,MP.keep hP t A (j+1) ht⟩
end
mutual
theorem VP.at {w:World} {B:Nat} {P:Nat→Prop} (hP:∀ b,P b→b < B):∀ (v:VT) (c0 c1 c2 c3 c4:Value),VP w P v c0 c1 c2 c3 c4→VAt w B v c0 c1 c2 c3 c4
 | .mk k n s l m,c0,c1,c2,c3,c4,h=>by
   unfold VP at h;unfold VAt;obtain ⟨h0,h1,h2,hs,⟨A,c,h3,g3,h4⟩,A',c',h5,g5,h6⟩:=h;exact ⟨h0,h1,h2,hs,⟨A,c,h3,g3,LP.at hP l A 0 h4⟩,A',c',h5,g5,MP.at hP m A' 0 h6⟩
theorem LP.at {w:World} {B:Nat} {P:Nat→Prop} (hP:∀ b,P b→b < B):∀ (l:VL) (A:Option Addr) (j:Nat),LP w P l A j→LAt w B l A j
 | .nil,_,_,_=>by unfold LAt;trivial
 | .cons v t,A,j,h=>by
   unfold LP at h;unfold LAt;obtain ⟨⟨b,o,c0,c1,c2,c3,c4,hA,hlt,hf,hv⟩,ht⟩:=h;exact ⟨⟨b,o,c0,c1,c2,c3,c4,hA,hP b hlt,hf,VP.at hP v _ _ _ _ _ hv⟩,LP.at hP t A (j+1) ht⟩
theorem MP.at {w:World} {B:Nat} {P:Nat→Prop} (hP:∀ b,P b→b < B):∀ (l:VM) (A:Option Addr) (j:Nat),MP w P l A j→MAt w B l A j
 | .nil,_,_,_=>by unfold MAt;trivial
 | .cons nm v t,A,j,h=>by
   unfold MP at h;unfold MAt;obtain ⟨⟨b,o,c0,c1,c2,c3,c4,hA,hlt,hn,hz,hf,hv⟩,ht⟩:=h;exact ⟨⟨b,o,c0,c1,c2,c3,c4,hA,hP b hlt,hn,hz,hf,VP.at hP v _ _ _ _ _ hv⟩,MP.at hP t A (j+1) ht⟩
end
def Ez (w:World) (P:Nat→Prop):VL→List Value→Prop
 | .nil,xs=>xs=[]
 | .cons v t,xs=>∃ c0 c1 c2 c3 c4 ys,xs=c0 :: c1 :: c2 :: c3 :: c4 :: ys∧VP w P v c0 c1 c2 c3 c4∧Ez w P t ys
def G9 (w:World) (P:Nat→Prop):VM→List Value→Prop
 | .nil,xs=>xs=[]
 | .cons nm v t,xs=>∃ c0 c1 c2 c3 c4 ys,xs=.string nm :: c0 :: c1 :: c2 :: c3 :: c4 :: ys∧nm.size≤9223372036854775807∧VP w P v c0 c1 c2 c3 c4∧G9 w P t ys
def VL.snoc:VL→VT→VL
 | .nil,v=>.cons v .nil
 | .cons u t,v=>.cons u (t.snoc v)
def VM.snoc:VM→ByteArray→VT→VM
 | .nil,nm,v=>.cons nm v .nil
 | .cons x u t,nm,v=>.cons x u (t.snoc nm v)
def VL.take:VL→Nat→VL
 | _,0=>.nil
 | .nil,_+1=>.nil
 | .cons v t,j+1=>.cons v (t.take j)
def VM.take:VM→Nat→VM
 | _,0=>.nil
 | .nil,_+1=>.nil
 | .cons nm v t,j+1=>.cons nm v (t.take j)
theorem VL.take_zero (l:VL):l.take 0=.nil:=by cases l<;>rfl
theorem VM.take_zero (l:VM):l.take 0=.nil:=by cases l<;>rfl
theorem Ez.keep {w w':World} {P P':Nat→Prop} (hP:∀ b,P b→P' b∧w'.heap[b]? = w.heap[b]?):∀ {l:VL} {xs:List Value},Ez w P l xs→Ez w' P' l xs
 | .nil,_,h=>h
 | .cons v t,xs,h=>by
   obtain ⟨c0,c1,c2,c3,c4,ys,e,hv,ht⟩:=h;exact ⟨c0,c1,c2,c3,c4,ys,e,VP.keep hP _ _ _ _ _ _ hv,Ez.keep hP ht⟩
theorem G9.keep {w w':World} {P P':Nat→Prop} (hP:∀ b,P b→P' b∧w'.heap[b]? = w.heap[b]?):∀ {l:VM} {xs:List Value},G9 w P l xs→G9 w' P' l xs
 | .nil,_,h=>h
 | .cons nm v t,xs,h=>by
   obtain ⟨c0,c1,c2,c3,c4,ys,e,hn,hv,ht⟩:=h;exact ⟨c0,c1,c2,c3,c4,ys,e,hn,VP.keep hP _ _ _ _ _ _ hv,G9.keep hP ht⟩
theorem Ez.snoc {w:World} {P:Nat→Prop} {v:VT} {d0 d1 d2 d3 d4:Value} (hd:VP w P v d0 d1 d2 d3 d4):∀ {l:VL} {xs:List Value},Ez w P l xs→Ez w P (l.snoc v) (xs++[d0,d1,d2,d3,d4])
 | .nil,xs,h=>by
   have:xs=[]:=h;subst this;exact ⟨d0,d1,d2,d3,d4,[],rfl,hd,rfl⟩
 | .cons u t,xs,h=>by
   obtain ⟨c0,c1,c2,c3,c4,ys,rfl,hv,ht⟩:=h;exact ⟨c0,c1,c2,c3,c4,ys++[d0,d1,d2,d3,d4],by simp,hv,Ez.snoc hd ht⟩
theorem G9.snoc {w:World} {P:Nat→Prop} {nm:ByteArray} {v:VT} {d0 d1 d2 d3 d4:Value} (hn:nm.size≤9223372036854775807) (hd:VP w P v d0 d1 d2 d3 d4):∀ {l:VM} {xs:List Value},G9 w P l xs→G9 w P (l.snoc nm v) (xs++[.string nm,d0,d1,d2,d3,d4])
 | .nil,xs,h=>by
   have:xs=[]:=h;subst this;exact ⟨d0,d1,d2,d3,d4,[],rfl,hn,hd,rfl⟩
 | .cons x u t,xs,h=>by
   obtain ⟨c0,c1,c2,c3,c4,ys,rfl,hx,hv,ht⟩:=h;exact ⟨c0,c1,c2,c3,c4,ys++[.string nm,d0,d1,d2,d3,d4],by simp,hx,hv,G9.snoc hn hd ht⟩
theorem LP.of_cells {w:World} {P:Nat→Prop} {g:Nat} (hg:P g):∀ {l:VL} {xs:List Value} (i:Nat),Ez w P l xs→(∀ j u,xs[j]? = some u→w.cell? ⟨g,i*5+j,none⟩=some u)→LP w P l (some ⟨g,0,none⟩) i
 | .nil,_,_,_,_=>by unfold LP;trivial
 | .cons v t,xs,i,h,hc=>by
   obtain ⟨c0,c1,c2,c3,c4,ys,rfl,hv,ht⟩:=h;unfold LP;refine ⟨⟨g,0,c0,c1,c2,c3,c4,rfl,hg,?_,hv⟩,LP.of_cells hg (i+1) ht (fun j u hj=>?_)⟩
   · rw [Nat.zero_add]
     exact ⟨hc 0 c0 rfl,hc 1 c1 rfl,hc 2 c2 rfl,hc 3 c3 rfl,hc 4 c4 rfl⟩
   · have:=hc (j+5) u (by simpa using hj)
     rwa [show i*5+(j+5)=(i+1)*5+j by omega] at this
theorem MP.of_cells {w:World} {P:Nat→Prop} {g:Nat} (hg:P g):∀ {l:VM} {xs:List Value} (i:Nat),G9 w P l xs→(∀ j u,xs[j]? = some u→w.cell? ⟨g,i*6+j,none⟩=some u)→MP w P l (some ⟨g,0,none⟩) i
 | .nil,_,_,_,_=>by unfold MP;trivial
 | .cons nm v t,xs,i,h,hc=>by
   obtain ⟨c0,c1,c2,c3,c4,ys,rfl,hn,hv,ht⟩:=h;unfold MP;refine ⟨⟨g,0,c0,c1,c2,c3,c4,rfl,hg,?_,hn,?_,hv⟩,MP.of_cells hg (i+1) ht (fun j u hj=>?_)⟩
   · rw [Nat.zero_add];exact hc 0 _ rfl
   · rw [Nat.zero_add]
     exact ⟨hc 1 c0 rfl,hc 2 c1 rfl,hc 3 c2 rfl,hc 4 c3 rfl,hc 5 c4 rfl⟩
   · have:=hc (j+6) u (by simpa using hj)
     rwa [show i*6+(j+6)=(i+1)*6+j by omega] at this
theorem Yjm {w:World} {base:Nat} {V:Value} {P:Nat→Prop} {l:VL} {xs:List Value} (h:w.ownsRow base 94 5 V l.len xs) (hv:Ez w P l xs) :
   ∃ A c,V=.slice A l.len c∧LP w (fun b=>P b∨V.ownBlock=some b) l A 0:=by
 rcases h.2 with ⟨hV,hn⟩|⟨g,c,cur,hV,_⟩
 · refine ⟨none,0,by rw [hV,hn],?_⟩
   cases l with
   | nil=>unfold LP;trivial
   | cons v t=>simp [VL.len] at hn
 · have hg:V.ownBlock=some g:=by rw [hV];rfl
   refine ⟨some ⟨g,0,none⟩,c,hV,LP.of_cells (.inr hg) 0 (hv.keep (fun b hb=>⟨.inl hb,rfl⟩)) (fun j u hj=>?_)⟩;have:=h.cells hg j u hj
   rwa [Pk,Nat.zero_add,show j=0*5+j by omega] at this
theorem Zk0 {w:World} {base:Nat} {V:Value} {P:Nat→Prop} {l:VM} {xs:List Value} (h:w.ownsRow base 151 6 V l.len xs) (hv:G9 w P l xs) :
   ∃ A c,V=.slice A l.len c∧MP w (fun b=>P b∨V.ownBlock=some b) l A 0:=by
 rcases h.2 with ⟨hV,hn⟩|⟨g,c,cur,hV,_⟩
 · refine ⟨none,0,by rw [hV,hn],?_⟩
   cases l with
   | nil=>unfold MP;trivial
   | cons nm v t=>simp [VM.len] at hn
 · have hg:V.ownBlock=some g:=by rw [hV];rfl
   refine ⟨some ⟨g,0,none⟩,c,hV,MP.of_cells (.inr hg) 0 (hv.keep (fun b hb=>⟨.inl hb,rfl⟩)) (fun j u hj=>?_)⟩;have:=h.cells hg j u hj
   rwa [Pk,Nat.zero_add,show j=0*6+j by omega] at this
theorem Qe:(Tryz.prog.info? 94).map (fun i=>(i.zero,i.size,i.bytes))=some (some (.agg #[.int .i64 0,.int .i64 0,.string ⟨#[]⟩,.slice none 0 0,.slice none 0 0]),5,80):=by kernel_rfl
theorem Yj2:(Tryz.prog.info? 151).map (fun i=>(i.zero,i.size,i.bytes))=some (some (.agg #[.string ⟨#[]⟩,.int .i64 0,.int .i64 0,.string ⟨#[]⟩,.slice none 0 0,.slice none 0 0]),6,96):=by kernel_rfl
theorem Yeq:∀ v:VT,1≤Uq v
 | .mk _ _ _ _ _=>by rw [Uq];omega
theorem Ydu:∀ l:VM,l.len≤Ea l
 | .nil=>Nat.le_refl _
 | .cons nm v t=>by rw [VM.len,Ea];have:=Ydu t;have:=Yeq v;omega
def Y7 (w w':World) (b:Nat):Prop:=w.heap.size≤b∧b < w'.heap.size
def RT (base:Nat) (W:World) (V:Value) (q:Nat) (l:VL):Prop:=∃ xs P,W.ownsRow base 94 5 V q xs∧Ez W P l xs∧∀ b,P b→base≤b∧b < W.heap.size∧V.ownBlock ≠ some b
def RM (base:Nat) (W:World) (V:Value) (q:Nat) (l:VM):Prop:=∃ xs P,W.ownsRow base 151 6 V q xs∧G9 W P l xs∧∀ b,P b→base≤b∧b < W.heap.size∧V.ownBlock ≠ some b
theorem RT.start (base:Nat) (W:World):RT base W (.slice none 0 0) 0 .nil:=⟨[],fun _=>False,World.ownsRow_nil _ _ _ _,rfl,fun _ h=>h.elim⟩
theorem RM.start (base:Nat) (W:World):RM base W (.slice none 0 0) 0 .nil:=⟨[],fun _=>False,World.ownsRow_nil _ _ _ _,rfl,fun _ h=>h.elim⟩
theorem Yw {B:Nat} {e:TypeId} {k:Nat} {v:Value} {n:Nat} {xs:List Value} {w w':World} (h:w.ownsRow B e k v n xs) (hb:Below w.heap.size w w'):w'.ownsRow B e k v n xs:=
 h.kept (row:=none) ⟨hb.os,hb.tape,hb.output,hb.size,fun j hj _=>hb.block j hj⟩ (Classical.em _)
theorem Vu {wr w2 w4:World} {V:Value} {g:Nat} {o:Obj} {P:Nat→Prop} {base:Nat} (hbase:base≤wr.heap.size) (hV:∀ k,V.ownBlock=some k→k < wr.heap.size) (hP:∀ b,P b→base≤b∧b < wr.heap.size∧V.ownBlock ≠ some b)
   (hb:Below wr.heap.size wr w2) (hg:(w2.alloc o).grownBy w4 V.ownBlock) (hat:V.ownBlock=some g∨g=(w2.alloc o).heap.size) :
   (∀ b,P b→(P b∨Y7 wr w2 b)∧w4.heap[b]? = wr.heap[b]?)∧(∀ b,Y7 wr w2 b→(P b∨Y7 wr w2 b)∧w4.heap[b]? = w2.heap[b]?)∧(∀ b,P b∨Y7 wr w2 b→base≤b∧b < w4.heap.size∧some g ≠ some b):=by
 have hs2:=hb.size;have hs4:=hg.size;have ha:(w2.alloc o).heap.size=w2.heap.size+1:=by simp
 have hn:∀ b,Y7 wr w2 b→V.ownBlock ≠ some b:=fun b h e=>by have:=hV b e;have:=h.1;omega
 refine ⟨fun b h=>⟨.inl h,?_⟩,fun b h=>⟨.inr h,?_⟩,fun b h=>?_⟩
 · obtain ⟨_,h1,h2⟩:=hP b h
   rw [hg.block b (by omega) (fun e=>h2 e.symm),Below.heap_alloc _ _ _ (by omega),hb.block b h1]
 · have h1:=h.2
   rw [hg.block b (by omega) (fun e=>hn b h e.symm),Below.heap_alloc _ _ _ h1]
 · have hlt:base≤b∧b < w2.heap.size∧V.ownBlock ≠ some b:=by
     rcases h with h|h
     · obtain ⟨h0,h1,h2⟩:=hP b h
       exact ⟨h0,by omega,h2⟩
     · exact ⟨Nat.le_trans hbase h.1,h.2,hn b h⟩
   refine ⟨hlt.1,by omega,fun e=>?_⟩;rcases hat with hat|hat
   · exact hlt.2.2 (hat.trans e)
   · have:g=b:=by injection e
     omega
theorem RT.next {base q cap g:Nat} {wr w2 w4:World} {V:Value} {l:VL} {v:VT} {o:Obj} {xs:List Value} {P:Nat→Prop} {d0 d1 d2 d3 d4:Value} (hbase:base≤wr.heap.size) (hown:wr.ownsRow base 94 5 V q xs) (hv:Ez wr P l xs) (hP:∀ b,P b→base≤b∧b < wr.heap.size∧V.ownBlock ≠ some b)
  (hb:Below wr.heap.size wr w2) (hd:VP w2 (Y7 wr w2) v d0 d1 d2 d3 d4) (hown4:w4.ownsRow base 94 5 (.slice (some ⟨g,0,none⟩) (q+1) cap) (q+1) (xs++[d0,d1,d2,d3,d4])) (hg:(w2.alloc o).grownBy w4 V.ownBlock) (hat:V.ownBlock=some g∨g=(w2.alloc o).heap.size) :
  RT base w4 (.slice (some ⟨g,0,none⟩) (q+1) cap) (q+1) (l.snoc v):=by
 obtain ⟨h1,h2,h3⟩:=Vu hbase (fun k hk=>(hown.lt k hk).2) hP hb hg hat;exact ⟨_,fun b=>P b∨Y7 wr w2 b,hown4,Ez.snoc (VP.keep h2 _ _ _ _ _ _ hd) (hv.keep h1),h3⟩
theorem RM.next {base q cap g:Nat} {wr w2 w4:World} {V:Value} {l:VM} {nm:ByteArray} {v:VT} {o:Obj} {xs:List Value} {P:Nat→Prop} {d0 d1 d2 d3 d4:Value} (hbase:base≤wr.heap.size) (hown:wr.ownsRow base 151 6 V q xs) (hv:G9 wr P l xs) (hP:∀ b,P b→base≤b∧b < wr.heap.size∧V.ownBlock ≠ some b) (hnm:nm.size≤9223372036854775807)
  (hb:Below wr.heap.size wr w2) (hd:VP w2 (Y7 wr w2) v d0 d1 d2 d3 d4) (hown4:w4.ownsRow base 151 6 (.slice (some ⟨g,0,none⟩) (q+1) cap) (q+1) (xs++[.string nm,d0,d1,d2,d3,d4])) (hg:(w2.alloc o).grownBy w4 V.ownBlock) (hat:V.ownBlock=some g∨g=(w2.alloc o).heap.size) :
  RM base w4 (.slice (some ⟨g,0,none⟩) (q+1) cap) (q+1) (l.snoc nm v):=by
 obtain ⟨h1,h2,h3⟩:=Vu hbase (fun k hk=>(hown.lt k hk).2) hP hb hg hat;exact ⟨_,fun b=>P b∨Y7 wr w2 b,hown4,G9.snoc hnm (VP.keep h2 _ _ _ _ _ _ hd) (hv.keep h1),h3⟩
theorem Xi {w:World} {base sz:Nat} {e:TypeId} {v:Value} {n:Nat} {xs:List Value} (h:w.ownsRow base e sz v n xs):∃ A cap,v=.slice A n cap:=by
 rcases h.2 with ⟨hv,hn⟩|⟨g,cap,cur,hv,_⟩
 · exact ⟨none,0,by rw [hv,hn]⟩
 · exact ⟨_,_,hv⟩
theorem Yh9 (w:World) (a0 a1 a2 a3 a4:Value) (t:TypeId) {n:Nat} (hn:n=w.heap.size):∀ (j:Nat) u,[a0,a1,a2,a3,a4][j]? = some u→(w.alloc (.cells #[a0,a1,a2,a3,a4] t)).cell? ((⟨n,0,none⟩:Addr).add j)=some u:=by
 subst hn;intro j u hu;rw [Pk,Nat.zero_add]
 match j,hu with
 | 0,hu=>cases hu;rw [World.cell?_alloc_at _ _ _ _ rfl];rfl
 | 1,hu=>cases hu;rw [World.cell?_alloc_at _ _ _ _ rfl];rfl
 | 2,hu=>cases hu;rw [World.cell?_alloc_at _ _ _ _ rfl];rfl
 | 3,hu=>cases hu;rw [World.cell?_alloc_at _ _ _ _ rfl];rfl
 | 4,hu=>cases hu;rw [World.cell?_alloc_at _ _ _ _ rfl];rfl
theorem Yky (w:World) (a a0 a1 a2 a3 a4:Value) (t:TypeId) {n:Nat} (hn:n=w.heap.size):∀ (j:Nat) u,[a,a0,a1,a2,a3,a4][j]? = some u→(w.alloc (.cells #[a,a0,a1,a2,a3,a4] t)).cell? ((⟨n,0,none⟩:Addr).add j)=some u:=by
 subst hn;intro j u hu;rw [Pk,Nat.zero_add]
 match j,hu with
 | 0,hu=>cases hu;rw [World.cell?_alloc_at _ _ _ _ rfl];rfl
 | 1,hu=>cases hu;rw [World.cell?_alloc_at _ _ _ _ rfl];rfl
 | 2,hu=>cases hu;rw [World.cell?_alloc_at _ _ _ _ rfl];rfl
 | 3,hu=>cases hu;rw [World.cell?_alloc_at _ _ _ _ rfl];rfl
 | 4,hu=>cases hu;rw [World.cell?_alloc_at _ _ _ _ rfl];rfl
 | 5,hu=>cases hu;rw [World.cell?_alloc_at _ _ _ _ rfl];rfl
def KQ (w:World) (c0 c1 c2 c3 c4:Value) (W:World):Prop:=W.heap[w.heap.size]? = some (.cells #[c0,c1,c2,c3,c4] 94 (0,0))∧W.heap[w.heap.size+1]? = some (.cells #[.int .i64 0,.int .i64 0,.string ⟨#[]⟩,.slice none 0 0,.slice none 0 0] 94 (0,0))∧Below w.heap.size w W∧w.heap.size+2≤W.heap.size
theorem KQ.grown {w W W':World} {c0 c1 c2 c3 c4:Value} (h:KQ w c0 c1 c2 c3 c4 W) (hb:∀ b,b < w.heap.size+2→W'.heap[b]? = W.heap[b]?) (hw:Below w.heap.size w W') (hs:W.heap.size≤W'.heap.size):KQ w c0 c1 c2 c3 c4 W':=
 ⟨(hb _ (by omega)).trans h.1,(hb _ (by omega)).trans h.2.1,hw,Nat.le_trans h.2.2.2 hs⟩
theorem KQ.next {w W W':World} {c0 c1 c2 c3 c4:Value} (h:KQ w c0 c1 c2 c3 c4 W) (hb:Below W.heap.size W W'):KQ w c0 c1 c2 c3 c4 W':=
 h.grown (fun b hl=>hb.block b (Nat.lt_of_lt_of_le hl h.2.2.2)) (h.2.2.1.trans (hb.mono h.2.2.1.size)) hb.size
def omB:ByteArray:=⟨#[123]⟩
def cmB:ByteArray:=⟨#[125]⟩
def J5:ByteArray:=⟨#[36]⟩
def Xj:ByteArray:=⟨#[58]⟩
def Zzj:List Tok→Except Int (VT × List Tok)
 | []=>.error 2
 | t :: r =>
   match Zv t with
   | none=>.error 2
   | some (k,n,s)=>.ok (.mk k n s .nil .nil,r)
mutual
def F3:Nat→Bool→Nat→List Tok→Except Int (VT × List Tok)
 | 0,_,_,_=>.error 2
 | f + 1,fx,d,ts =>
   if atB 1 oB ts=true then
    if d=16 then .error 4 else
     match Xd f fx (d+1) .nil ts.tail with
     | .error e=>.error e
     | .ok (l,r)=>.ok (.mk 6 0 ⟨#[]⟩ l .nil,r)
   else if atB 1 omB ts=true then
    if d=16 then .error 4 else
     match Vn f fx (d+1) .nil ts.tail with
     | .error e=>.error e
     | .ok (m,r)=>.ok (.mk 7 0 ⟨#[]⟩ .nil m,r)
   else if (!fx && atB 1 J5 ts)=true then
    match Zg ts.tail with
    | none=>.error 2
    | some (s,r)=>.ok (.mk 8 0 s .nil .nil,r)
   else Zzj ts
def Xd:Nat→Bool→Nat→VL→List Tok→Except Int (VL × List Tok)
 | 0,_,_,_,_=>.error 2
 | f+1,fx,d,acc,ts =>
   if atB 1 cB ts=true then .ok (acc,ts.tail) else
    match F3 f fx d ts with
    | .error e=>.error e
    | .ok (v,r)=>Xd f fx d (acc.snoc v) r
def Vn:Nat→Bool→Nat→VM→List Tok→Except Int (VM × List Tok)
 | 0,_,_,_,_=>.error 2
 | f+1,fx,d,acc,ts =>
   if atB 1 cmB ts=true then .ok (acc,ts.tail) else
    match C9 f fx d ts with
    | .error e=>.error e
    | .ok ((nm,v),r)=>Vn f fx d (acc.snoc nm v) r
def C9:Nat→Bool→Nat→List Tok→Except Int ((ByteArray × VT) × List Tok)
 | 0,_,_,_=>.error 2
 | f + 1,fx,d,ts =>
   match Zg ts with
   | none=>.error 2
   | some (nm,r) =>
     if atB 1 Xj r=true then
      match F3 f fx d r.tail with
      | .error e=>.error e
      | .ok (v,r2)=>.ok ((nm,v),r2)
     else .error 2
end
theorem Ie {k:Int} {s:ByteArray} {ts:List Tok} (h:atB k s ts=true):ts.tail.length+1=ts.length:=by
 cases ts with
 | nil=>cases h
 | cons t ts=>rfl
theorem W3 {ts r:List Tok} {s:ByteArray} (h:Zg ts=some (s,r)):r.length+1=ts.length:=by
 cases ts with
 | nil=>cases h
 | cons t ts =>
   change (if t.1=2 then some (t.2,ts) else none)=some (s,r) at h
   split at h
   · have:=(Prod.mk.inj (Option.some.inj h)).2
     subst this;rfl
   · cases h
theorem F6 : ∀ f:Nat,
   (∀ fx d ts v r,F3 f fx d ts=.ok (v,r)→r.length+1≤ts.length) ∧
   (∀ fx d acc ts l r,Xd f fx d acc ts=.ok (l,r)→r.length+1≤ts.length) ∧
   (∀ fx d acc ts l r,Vn f fx d acc ts=.ok (l,r)→r.length+1≤ts.length) ∧
   (∀ fx d ts p r,C9 f fx d ts=.ok (p,r)→r.length+1≤ts.length):=by
 intro f
 induction f with
 | zero =>
   refine ⟨fun _ _ _ _ _ h=>?_,fun _ _ _ _ _ _ h=>?_,fun _ _ _ _ _ _ h=>?_,fun _ _ _ _ _ h=>?_⟩
   · rw [F3] at h;cases h
   · rw [Xd] at h;cases h
   · rw [Vn] at h;cases h
   · rw [C9] at h;cases h
 | succ f ih =>
   obtain ⟨iv,il,im,ib⟩:=ih;refine ⟨fun fx d ts v r h=>?_,fun fx d acc ts l r h=>?_,fun fx d acc ts l r h=>?_,fun fx d ts p r h=>?_⟩
   · rw [F3] at h
     split at h
     · rename_i ha
       have:=Ie ha
       split at h
       · cases h
       · cases hi:Xd f fx (d+1) .nil ts.tail with
         | error e=>rw [hi] at h;cases h
         | ok q =>
           obtain ⟨l,r'⟩:=q;rw [hi] at h;have:=il _ _ _ _ _ _ hi;have e:=(Prod.mk.inj (Except.ok.inj h)).2;subst e;omega
     · split at h
       · rename_i ha
         have:=Ie ha
         split at h
         · cases h
         · cases hi:Vn f fx (d+1) .nil ts.tail with
           | error e=>rw [hi] at h;cases h
           | ok q =>
             obtain ⟨l,r'⟩:=q;rw [hi] at h;have:=im _ _ _ _ _ _ hi;have e:=(Prod.mk.inj (Except.ok.inj h)).2;subst e;omega
       · split at h
         · rename_i ha
           have:=Ie (show atB 1 J5 ts=true by cases fx<;>simp_all)
           cases hn:Zg ts.tail with
           | none=>rw [hn] at h;cases h
           | some q =>
             obtain ⟨s,r'⟩:=q;rw [hn] at h;have:=W3 hn;have e:=(Prod.mk.inj (Except.ok.inj h)).2;subst e;omega
         · cases ts with
           | nil=>cases h
           | cons t ts =>
             unfold Zzj at h;simp only at h
             cases hs:Zv t with
             | none=>rw [hs] at h;cases h
             | some q =>
               rw [hs] at h;have e:=(Prod.mk.inj (Except.ok.inj h)).2;subst e;exact Nat.le_refl _
   · rw [Xd] at h
     split at h
     · rename_i ha
       have:=Ie ha;have e:=(Prod.mk.inj (Except.ok.inj h)).2;subst e;omega
     · cases hi:F3 f fx d ts with
       | error e=>rw [hi] at h;cases h
       | ok q =>
         obtain ⟨v,r'⟩:=q;rw [hi] at h;have h1:=iv _ _ _ _ _ hi;have h2:=il _ _ _ _ _ _ h;omega
   · rw [Vn] at h
     split at h
     · rename_i ha
       have:=Ie ha;have e:=(Prod.mk.inj (Except.ok.inj h)).2;subst e;omega
     · cases hi:C9 f fx d ts with
       | error e=>rw [hi] at h;cases h
       | ok q =>
         obtain ⟨⟨nm,v⟩,r'⟩:=q;rw [hi] at h;have h1:=ib _ _ _ _ _ hi;have h2:=im _ _ _ _ _ _ h;omega
   · rw [C9] at h
     cases hn:Zg ts with
     | none=>rw [hn] at h;cases h
     | some q =>
       obtain ⟨nm,r'⟩:=q;rw [hn] at h;have h0:=W3 hn;simp only at h
       split at h
       · rename_i ha
         have h1:=Ie ha
         cases hi:F3 f fx d r'.tail with
         | error e=>rw [hi] at h;cases h
         | ok q =>
           obtain ⟨v,r2⟩:=q;rw [hi] at h;have h2:=iv _ _ _ _ _ hi;have e:=(Prod.mk.inj (Except.ok.inj h)).2;subst e;omega
       · cases h
def Zs (ts:List Tok):Prop:=∀ t ∈ ts,t.2.size≤9000∧(t.1=3→Jf t.2.data.toList=3)
theorem Zs.tail {ts:List Tok} (h:Zs ts):Zs ts.tail:=fun t ht=>h t (List.mem_of_mem_tail ht)
theorem Zs.name {ts r:List Tok} {s:ByteArray} (h:Zs ts) (hn:Zg ts=some (s,r)):s.size≤9000∧Zs r:=by
 cases ts with
 | nil=>cases hn
 | cons t ts =>
   change (if t.1=2 then some (t.2,ts) else none)=some (s,r) at hn
   split at hn
   · obtain ⟨e1,e2⟩:=Prod.mk.inj (Option.some.inj hn)
     subst e1 e2;exact ⟨(h t (by simp)).1,fun u hu=>h u (by simp [hu])⟩
   · cases hn
def KRd (r:Nat) (w:World):Prop:=∃ w0,Ve w0∧w0.heap.size≤r∧Below w0.heap.size w0 w
theorem KRd.laid {r:Nat} {w:World} (h:KRd r w):Ve w:=by
 obtain ⟨w0,h0,_,hb⟩:=h;exact h0.below hb
theorem KRd.moved {r:Nat} {w w':World} (h:KRd r w) (m:Z0 r w w'):KRd r w':=by
 obtain ⟨w0,h0,hl,hb⟩:=h;exact ⟨w0,h0,hl,⟨m.os.trans hb.os,m.tape.trans hb.tape,m.output.trans hb.output,Nat.le_trans hb.size m.size,fun k hk=>(m.block k (Nat.lt_of_lt_of_le hk hb.size) (fun e=>by injection e;omega)).trans (hb.block k hk)⟩⟩
def Yq1 (f:Nat):Prop:=∀ (fx:Bool) (d:Nat) (ts:List Tok) (r:Nat) (w:World),2*ts.length+1≤f→Zs ts→d≤16→Rd w r ts d→KRd r w →
 Calls Tryz.prog 117 #[.pointer (some ⟨r,0,none⟩),.bool fx] w fun e w'=>match F3 f fx d ts with
  | .ok (v,ts')=>(∃ d0 d1 d2 d3 d4,e=.returned (.agg #[d0,d1,d2,d3,d4])∧VP w' (Y7 w w') v d0 d1 d2 d3 d4)∧Rd w' r ts' d∧Zs ts'∧Z0 r w w'
  | .error x=>e=Yb x∧Z0 r w w'
def Zqj (f:Nat) (fx:Bool) (d:Nat) (ts:List Tok):Except Int (VL × List Tok):=if d=16 then .error 4 else Xd f fx (d+1) .nil ts.tail
def Yk4 (f:Nat) (fx:Bool) (d:Nat) (ts:List Tok):Except Int (VM × List Tok):=if d=16 then .error 4 else Vn f fx (d+1) .nil ts.tail
def Ylo (f:Nat):Prop:=∀ (fx:Bool) (d:Nat) (ts:List Tok) (r:Nat) (w:World),2*ts.length≤f→Zs ts→d≤16→atB 1 oB ts=true→Rd w r ts d→KRd r w →
 Calls Tryz.prog 148 #[.pointer (some ⟨r,0,none⟩),.bool fx] w fun e w'=>match Zqj f fx d ts with
  | .ok (l,ts')=>(∃ d0 d1 d2 d3 d4,e=.returned (.agg #[d0,d1,d2,d3,d4])∧VP w' (Y7 w w') (.mk 6 0 ⟨#[]⟩ l .nil) d0 d1 d2 d3 d4)∧Rd w' r ts' d∧Zs ts'∧Z0 r w w'
  | .error x=>e=Yb x∧Z0 r w w'
def Yq3 (f:Nat):Prop:=∀ (fx:Bool) (d:Nat) (ts:List Tok) (r:Nat) (w:World),2*ts.length+1≤f→Zs ts→d≤16→Rd w r ts d→KRd r w →
 Calls Tryz.prog 145 #[.pointer (some ⟨r,0,none⟩),.bool fx] w fun e w'=>match C9 f fx d ts with
  | .ok ((nm,v),ts')=>(∃ d0 d1 d2 d3 d4,e=.returned (.agg #[.string nm,d0,d1,d2,d3,d4])∧nm.size≤9000∧VP w' (Y7 w w') v d0 d1 d2 d3 d4)∧Rd w' r ts' d∧Zs ts'∧Z0 r w w'
  | .error x=>e=Yb x∧Z0 r w w'
def Yq9 (f:Nat):Prop:=∀ (fx:Bool) (d:Nat) (ts:List Tok) (r:Nat) (w:World),2*ts.length≤f→Zs ts→d≤16→atB 1 omB ts=true→Rd w r ts d→KRd r w →
 Calls Tryz.prog 149 #[.pointer (some ⟨r,0,none⟩),.bool fx] w fun e w'=>match Yk4 f fx d ts with
  | .ok (l,ts')=>(∃ d0 d1 d2 d3 d4,e=.returned (.agg #[d0,d1,d2,d3,d4])∧VP w' (Y7 w w') (.mk 7 0 ⟨#[]⟩ .nil l) d0 d1 d2 d3 d4)∧Rd w' r ts' d∧Zs ts'∧Z0 r w w'
  | .error x=>e=Yb x∧Z0 r w w'
theorem Yej {f:Nat} {fx:Bool} {d:Nat} {ts:List Tok} (h:atB 1 oB ts=true):F3 (f+1) fx d ts=(match Zqj f fx d ts with | .error e=>.error e | .ok (l,r)=>.ok (.mk 6 0 ⟨#[]⟩ l .nil,r)):=by
 rw [F3,if_pos h];unfold Zqj
 by_cases hd:d=16
 · rw [if_pos hd,if_pos hd]
 · rw [if_neg hd,if_neg hd]
theorem Yik {f:Nat} {fx:Bool} {d:Nat} {ts:List Tok} (h0:atB 1 oB ts=false) (h:atB 1 omB ts=true):F3 (f+1) fx d ts=(match Yk4 f fx d ts with | .error e=>.error e | .ok (l,r)=>.ok (.mk 7 0 ⟨#[]⟩ .nil l,r)):=by
 rw [F3,if_neg (by rw [h0];simp),if_pos h];unfold Yk4
 by_cases hd:d=16
 · rw [if_pos hd,if_pos hd]
 · rw [if_neg hd,if_neg hd]
theorem Yh5 {f:Nat} {fx:Bool} {d:Nat} {ts:List Tok} (h0:atB 1 oB ts=false) (h1:atB 1 omB ts=false) (h:(!fx && atB 1 J5 ts)=true):F3 (f+1) fx d ts=(match Zg ts.tail with|none=>.error 2|some (s,r)=>.ok (.mk 8 0 s .nil .nil,r)):=by
 rw [F3,if_neg (by rw [h0];simp),if_neg (by rw [h1];simp),if_pos h]
theorem Zxc {f:Nat} {fx:Bool} {d:Nat} {ts:List Tok} (h0:atB 1 oB ts=false) (h1:atB 1 omB ts=false) (h:(!fx && atB 1 J5 ts)=false):F3 (f+1) fx d ts=Zzj ts:=by
 rw [F3,if_neg (by rw [h0];simp),if_neg (by rw [h1];simp),if_neg (by rw [h];simp)]
def Yaw (w:World) (r:Nat) (W:World):Prop:=W.heap[w.heap.size]? = some (.cells #[.int .i64 0,.int .i64 0,.string ⟨#[]⟩,.slice none 0 0,.slice none 0 0] 94 (0,0))∧Z0 r w W∧r < w.heap.size
theorem Yaw.start {w:World} {r:Nat} (hr:r < w.heap.size):Yaw w r (w.alloc (.cells #[.int .i64 0,.int .i64 0,.string ⟨#[]⟩,.slice none 0 0,.slice none 0 0] 94)):=⟨heap_alloc_new _ _,Z0.of_below ((Below.refl _ _).alloc (Nat.le_refl _) _),hr⟩
theorem Yaw.next {w:World} {r:Nat} {W W':World} (h:Yaw w r W) (m:Z0 r W W'):Yaw w r W':=⟨m.keep h.1 (by have:=h.2.2;omega),h.2.1.trans m,h.2.2⟩
abbrev set5 (W:World) (b:Nat) (x0 x1 x2 x3 x4:Value):World:=((((W.setCell ⟨b,0,none⟩ x0).setCell ⟨b,1,none⟩ x1).setCell ⟨b,2,none⟩ x2).setCell ⟨b,3,none⟩ x3).setCell ⟨b,4,none⟩ x4
theorem Aa (W:World) (b:Nat) (x0 x1 x2 x3 x4:Value):(set5 W b x0 x1 x2 x3 x4).heap.size=W.heap.size:=by simp [set5,World.setCell]
theorem O8 (W:World) (b:Nat) (x0 x1 x2 x3 x4:Value) {k:Nat} (h:k ≠ b):(set5 W b x0 x1 x2 x3 x4).heap[k]? = W.heap[k]?:=by
 unfold set5;rw [Below.heap_setCell _ _ _ _ h,Below.heap_setCell _ _ _ _ h,Below.heap_setCell _ _ _ _ h,Below.heap_setCell _ _ _ _ h,Below.heap_setCell _ _ _ _ h]
theorem Yaw.fin {w:World} {r:Nat} {W:World} (h:Yaw w r W) (x0 x1 x2 x3 x4:Value):(set5 W w.heap.size x0 x1 x2 x3 x4).heap[w.heap.size]? = some (.cells #[x0,x1,x2,x3,x4] 94 (0,0))∧Z0 r w (set5 W w.heap.size x0 x1 x2 x3 x4):=
 ⟨Fu h.1,((((h.2.1.put (Nat.le_refl _)).put (Nat.le_refl _)).put (Nat.le_refl _)).put (Nat.le_refl _)).put (Nat.le_refl _)⟩
theorem Rd.set5 {w:World} {r b:Nat} {x0 x1 x2 x3 x4:Value} {ts:List Tok} {d:Nat} (h:Rd w r ts d) (hb:r < b):Rd (set5 w b x0 x1 x2 x3 x4) r ts d:=((((h.set hb).set hb).set hb).set hb).set hb
theorem Ykb {w W0 W:World} {v:VT} {c0 c1 c2 c3 c4 x0 x1 x2 x3 x4:Value} (h:VP W (Y7 W0 W) v c0 c1 c2 c3 c4) (h0:w.heap.size+1≤W0.heap.size):VP (set5 W w.heap.size x0 x1 x2 x3 x4) (Y7 w (set5 W w.heap.size x0 x1 x2 x3 x4)) v c0 c1 c2 c3 c4:=
 VP.keep (fun b hb=>by
  have h1:=hb.1;have h2:=hb.2;exact ⟨⟨by omega,by rw [Aa];exact h2⟩,O8 _ _ _ _ _ _ _ (by omega)⟩) _ _ _ _ _ _ h
theorem Sa (w:World) (P:Nat→Prop) (k n:Int) (s:ByteArray) (hs:s.size≤9000):VP w P (.mk k n s .nil .nil) (.int .i64 k) (.int .i64 n) (.string s) (.slice none 0 0) (.slice none 0 0):=by
 unfold VP;exact ⟨rfl,rfl,rfl,by omega,⟨none,0,rfl,Nat.zero_le _,by unfold LP;trivial⟩,none,0,rfl,Nat.zero_le _,by unfold MP;trivial⟩
end Go.Proofs.YtkmloefbkgcbkaaGreatDoor
