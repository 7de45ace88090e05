/- The walks of seineref1.Same and seineref1.Members: by induction on the tree. -/
import Derived.Test.YtaekdfcpbepepaaGreatDoorQb0
import Derived.Deep.QuietTactic
import Derived.BigQuiet
import Derived.Deep.Draws
import Derived.Laws.AppendOwn
import Derived.Laws.OwnMore
import Derived.OwnWalk
import Derived.Deep.AppendLies
import Derived.Lib.Strings
import Derived.Test.YtaekdfcpbepepaaGreatDoorChecked
import Derived.Below
import Derived.Laws.MakeOwn
import Derived.Laws.AppendOwnNone
import Derived.Laws.Rows
set_option maxRecDepth 100000
namespace Go.Proofs.YtaekdfcpbepepaaGreatDoor
open Go.RowKit
theorem vaside {p:Prop} (h:p):Aside p:=h
theorem VL.ext:∀ {l l':VL},l.len=l'.len→(∀ j,j < l.len→l.get j=l'.get j)→l=l'
 | .nil,.nil,_,_=>rfl
 | .nil,.cons _ _,h,_=>by simp [VL.len] at h
 | .cons _ _,.nil,h,_=>by simp [VL.len] at h
 | .cons u t,.cons u' t',h,hg=>by
   have h0:u=u':=by simpa [VL.get] using hg 0 (by rw [VL.len];omega)
   have ht:t=t':=VL.ext (by simp only [VL.len] at h;omega) (fun j hj=>by simpa [VL.get] using hg (j+1) (by rw [VL.len];omega))
   rw [h0,ht]
theorem VM.ext:∀ {l l':VM},l.len=l'.len→(∀ j,j < l.len→l.get j=l'.get j)→l=l'
 | .nil,.nil,_,_=>rfl
 | .nil,.cons _ _ _,h,_=>by simp [VM.len] at h
 | .cons _ _ _,.nil,h,_=>by simp [VM.len] at h
 | .cons x u t,.cons x' u' t',h,hg=>by
   have h0:x=x'∧u=u':=by simpa [VM.get] using hg 0 (by rw [VM.len];omega)
   have ht:t=t':=VM.ext (by simp only [VM.len] at h;omega) (fun j hj=>by simpa [VM.get] using hg (j+1) (by rw [VM.len];omega))
   rw [h0.1,h0.2,ht]
def AgreeL (l l':VL) (q:Nat):Prop:=∀ j,j < q→l.get j=l'.get j
def AgreeM (l l':VM) (q:Nat):Prop:=∀ j,j < q→l.get j=l'.get j
theorem AgreeL.next {l l':VL} {q:Nat} {v:VT} (h:AgreeL l l' q) (h1:l.get q=some v) (h2:l'.get q=some v):AgreeL l l' (q+1):=fun j hj=>by
 rcases Nat.lt_or_ge j q with h'|h'
 · exact h j h'
 · obtain rfl:j=q:=by omega
   rw [h1,h2]
theorem AgreeM.next {l l':VM} {q:Nat} {v:ByteArray × VT} (h:AgreeM l l' q) (h1:l.get q=some v) (h2:l'.get q=some v):AgreeM l l' (q+1):=fun j hj=>by
 rcases Nat.lt_or_ge j q with h'|h'
 · exact h j h'
 · obtain rfl:j=q:=by omega
   rw [h1,h2]
mutual
def VP (w:World) (P:Nat→Prop):VT→Value→Value→Value→Value→Value→Prop
 | .mk k n s l m,c0,c1,c2,c3,c4=>c0=.int .i64 k∧c1=.int .i64 n∧c2=.string s∧s.size≤9223372036854775807∧(∃ A c,c3=.slice A l.len c∧l.len≤9223372036854775807∧LP w P l A 0)∧∃ A c,c4=.slice A m.len c∧m.len≤9223372036854775807∧MP w P m A 0
def LP (w:World) (P:Nat→Prop):VL→Option Addr→Nat→Prop
 | .nil,_,_=>True
 | .cons v t,A,j=>(∃ b o c0 c1 c2 c3 c4,A=some ⟨b,o,none⟩∧P b∧Five w b (o+j*5) c0 c1 c2 c3 c4∧VP w P v c0 c1 c2 c3 c4)∧LP w P t A (j+1)
def MP (w:World) (P:Nat→Prop):VM→Option Addr→Nat→Prop
 | .nil,_,_=>True
 | .cons nm v t,A,j=>(∃ b o c0 c1 c2 c3 c4,A=some ⟨b,o,none⟩∧P b∧w.cell? ⟨b,o+j*6,none⟩=some (.string nm)∧nm.size≤9223372036854775807∧Five w b (o+j*6+1) c0 c1 c2 c3 c4∧VP w P v c0 c1 c2 c3 c4)∧MP w P t A (j+1)
end
theorem Five.heap {w w':World} {b o:Nat} {c0 c1 c2 c3 c4:Value} (h:Five w b o c0 c1 c2 c3 c4) (hb:w'.heap[b]? = w.heap[b]?):Five w' b o c0 c1 c2 c3 c4:=
 ⟨(World.cell?_of_block (a:=⟨b,_,none⟩) hb).trans h.1,(World.cell?_of_block (a:=⟨b,_,none⟩) hb).trans h.2.1,(World.cell?_of_block (a:=⟨b,_,none⟩) hb).trans h.2.2.1,(World.cell?_of_block (a:=⟨b,_,none⟩) hb).trans h.2.2.2.1,(World.cell?_of_block (a:=⟨b,_,none⟩) hb).trans h.2.2.2.2⟩
mutual
theorem VP.keep {w w':World} {P P':Nat→Prop} (hP:∀ b,P b→P' b∧w'.heap[b]? = w.heap[b]?):∀ (v:VT) (c0 c1 c2 c3 c4:Value),VP w P v c0 c1 c2 c3 c4→VP w' P' v c0 c1 c2 c3 c4
 | .mk k n s l m,c0,c1,c2,c3,c4,h=>by
   unfold VP at h ⊢
   obtain ⟨h0,h1,h2,hs,⟨A,c,h3,g3,h4⟩,A',c',h5,g5,h6⟩:=h
   exact ⟨h0,h1,h2,hs,⟨A,c,h3,g3,LP.keep hP l A 0 h4⟩,A',c',h5,g5,MP.keep hP m A' 0 h6⟩
theorem LP.keep {w w':World} {P P':Nat→Prop} (hP:∀ b,P b→P' b∧w'.heap[b]? = w.heap[b]?):∀ (l:VL) (A:Option Addr) (j:Nat),LP w P l A j→LP w' P' l A j
 | .nil,_,_,_=>by unfold LP;trivial
 | .cons v t,A,j,h=>by
   unfold LP at h ⊢
   obtain ⟨⟨b,o,c0,c1,c2,c3,c4,hA,hlt,hf,hv⟩,ht⟩:=h
   exact ⟨⟨b,o,c0,c1,c2,c3,c4,hA,(hP b hlt).1,hf.heap (hP b hlt).2,VP.keep hP v _ _ _ _ _ hv⟩,LP.keep hP t A (j+1) ht⟩
theorem MP.keep {w w':World} {P P':Nat→Prop} (hP:∀ b,P b→P' b∧w'.heap[b]? = w.heap[b]?):∀ (l:VM) (A:Option Addr) (j:Nat),MP w P l A j→MP w' P' l A j
 | .nil,_,_,_=>by unfold MP;trivial
 | .cons nm v t,A,j,h=>by
   unfold MP at h ⊢
   obtain ⟨⟨b,o,c0,c1,c2,c3,c4,hA,hlt,hn,hz,hf,hv⟩,ht⟩:=h
   exact ⟨⟨b,o,c0,c1,c2,c3,c4,hA,(hP b hlt).1,(World.cell?_of_block (a:=⟨b,_,none⟩) (hP b hlt).2).trans hn,hz,hf.heap (hP b hlt).2,VP.keep hP v _ _ _ _ _ hv⟩,MP.keep hP t A (j+1) ht⟩
end
mutual
theorem VP.at {w:World} {B:Nat} {P:Nat→Prop} (hP:∀ b,P b→b < B):∀ (v:VT) (c0 c1 c2 c3 c4:Value),VP w P v c0 c1 c2 c3 c4→VAt w B v c0 c1 c2 c3 c4
 | .mk k n s l m,c0,c1,c2,c3,c4,h=>by
   unfold VP at h
   unfold VAt
   obtain ⟨h0,h1,h2,hs,⟨A,c,h3,g3,h4⟩,A',c',h5,g5,h6⟩:=h
   exact ⟨h0,h1,h2,hs,⟨A,c,h3,g3,LP.at hP l A 0 h4⟩,A',c',h5,g5,MP.at hP m A' 0 h6⟩
theorem LP.at {w:World} {B:Nat} {P:Nat→Prop} (hP:∀ b,P b→b < B):∀ (l:VL) (A:Option Addr) (j:Nat),LP w P l A j→LAt w B l A j
 | .nil,_,_,_=>by unfold LAt;trivial
 | .cons v t,A,j,h=>by
   unfold LP at h
   unfold LAt
   obtain ⟨⟨b,o,c0,c1,c2,c3,c4,hA,hlt,hf,hv⟩,ht⟩:=h
   exact ⟨⟨b,o,c0,c1,c2,c3,c4,hA,hP b hlt,hf,VP.at hP v _ _ _ _ _ hv⟩,LP.at hP t A (j+1) ht⟩
theorem MP.at {w:World} {B:Nat} {P:Nat→Prop} (hP:∀ b,P b→b < B):∀ (l:VM) (A:Option Addr) (j:Nat),MP w P l A j→MAt w B l A j
 | .nil,_,_,_=>by unfold MAt;trivial
 | .cons nm v t,A,j,h=>by
   unfold MP at h
   unfold MAt
   obtain ⟨⟨b,o,c0,c1,c2,c3,c4,hA,hlt,hn,hz,hf,hv⟩,ht⟩:=h
   exact ⟨⟨b,o,c0,c1,c2,c3,c4,hA,hP b hlt,hn,hz,hf,VP.at hP v _ _ _ _ _ hv⟩,MP.at hP t A (j+1) ht⟩
end
def ValsL (w:World) (P:Nat→Prop):VL→List Value→Prop
 | .nil,xs=>xs=[]
 | .cons v t,xs=>∃ c0 c1 c2 c3 c4 ys,xs=c0 :: c1 :: c2 :: c3 :: c4 :: ys∧VP w P v c0 c1 c2 c3 c4∧ValsL w P t ys
def ValsM (w:World) (P:Nat→Prop):VM→List Value→Prop
 | .nil,xs=>xs=[]
 | .cons nm v t,xs=>∃ c0 c1 c2 c3 c4 ys,xs=.string nm :: c0 :: c1 :: c2 :: c3 :: c4 :: ys∧nm.size≤9223372036854775807∧VP w P v c0 c1 c2 c3 c4∧ValsM w P t ys
def VL.snoc:VL→VT→VL
 | .nil,v=>.cons v .nil
 | .cons u t,v=>.cons u (t.snoc v)
def VM.snoc:VM→ByteArray→VT→VM
 | .nil,nm,v=>.cons nm v .nil
 | .cons x u t,nm,v=>.cons x u (t.snoc nm v)
def VL.take:VL→Nat→VL
 | _,0=>.nil
 | .nil,_+1=>.nil
 | .cons v t,j+1=>.cons v (t.take j)
def VM.take:VM→Nat→VM
 | _,0=>.nil
 | .nil,_+1=>.nil
 | .cons nm v t,j+1=>.cons nm v (t.take j)
theorem ValsL.keep {w w':World} {P P':Nat→Prop} (hP:∀ b,P b→P' b∧w'.heap[b]? = w.heap[b]?):∀ {l:VL} {xs:List Value},ValsL w P l xs→ValsL w' P' l xs
 | .nil,_,h=>h
 | .cons v t,xs,h=>by
   obtain ⟨c0,c1,c2,c3,c4,ys,e,hv,ht⟩:=h
   exact ⟨c0,c1,c2,c3,c4,ys,e,VP.keep hP _ _ _ _ _ _ hv,ValsL.keep hP ht⟩
theorem ValsM.keep {w w':World} {P P':Nat→Prop} (hP:∀ b,P b→P' b∧w'.heap[b]? = w.heap[b]?):∀ {l:VM} {xs:List Value},ValsM w P l xs→ValsM w' P' l xs
 | .nil,_,h=>h
 | .cons nm v t,xs,h=>by
   obtain ⟨c0,c1,c2,c3,c4,ys,e,hn,hv,ht⟩:=h
   exact ⟨c0,c1,c2,c3,c4,ys,e,hn,VP.keep hP _ _ _ _ _ _ hv,ValsM.keep hP ht⟩
theorem info_val:(Tryz.prog.info? 58).map (fun i=>(i.zero,i.size,i.bytes))=some (some (.agg #[.int .i64 0,.int .i64 0,.string ⟨#[]⟩,.slice none 0 0,.slice none 0 0]),5,80):=by kernel_rfl
theorem sizeV_pos:∀ v:VT,1≤sizeV v
 | .mk _ _ _ _ _=>by rw [sizeV];omega
theorem lenM_le:∀ l:VM,l.len≤sizeM l
 | .nil=>Nat.le_refl _
 | .cons nm v t=>by rw [VM.len,sizeM];have:=lenM_le t;have:=sizeV_pos v;omega
mutual
def SlimV:VT→Prop
 | .mk _ _ _ l m=>l.len*80≤140737488355328∧m.len*96≤140737488355328∧SlimL l∧SlimM m
def SlimL:VL→Prop
 | .nil=>True
 | .cons v t=>SlimV v∧SlimL t
def SlimM:VM→Prop
 | .nil=>True
 | .cons _ v t=>SlimV v∧SlimM t
end
theorem SlimL.get:∀ {l:VL} {j:Nat} {v:VT},SlimL l→l.get j=some v→SlimV v
 | .nil,_,_,_,h=>by simp [VL.get] at h
 | .cons u t,0,v,hs,h=>by
   have:u=v:=by simpa [VL.get] using h
   subst this
   unfold SlimL at hs
   exact hs.1
 | .cons u t,j+1,v,hs,h=>by
   unfold SlimL at hs
   exact SlimL.get (l:=t) (j:=j) hs.2 h
theorem SlimM.get:∀ {l:VM} {j:Nat} {nm:ByteArray} {v:VT},SlimM l→l.get j=some (nm,v)→SlimV v
 | .nil,_,_,_,_,h=>by simp [VM.get] at h
 | .cons x u t,0,nm,v,hs,h=>by
   have:x=nm∧u=v:=by simpa [VM.get] using h
   obtain ⟨_,rfl⟩:=this
   unfold SlimM at hs
   exact hs.1
 | .cons x u t,j+1,nm,v,hs,h=>by
   unfold SlimM at hs
   exact SlimM.get (l:=t) (j:=j) hs.2 h
def RT (base:Nat) (W:World) (V:Value) (q:Nat) (l:VL):Prop:=∃ xs P,W.ownsRow base 58 5 V q xs∧ValsL W P l xs∧∀ b,P b→base≤b∧b < W.heap.size∧V.ownBlock ≠ some b
theorem own_low {B:Nat} {e:TypeId} {k:Nat} {v:Value} {n:Nat} {xs:List Value} {w w':World} (h:w.ownsRow B e k v n xs) (hb:Below w.heap.size w w'):w'.ownsRow B e k v n xs:=
 h.kept (row:=none) ⟨hb.os,hb.tape,hb.output,hb.size,fun j hj _=>hb.block j hj⟩ (Classical.em _)
theorem shape_own {w:World} {base sz:Nat} {e:TypeId} {v:Value} {n:Nat} {xs:List Value} (h:w.ownsRow base e sz v n xs):∃ A cap,v=.slice A n cap:=by
 rcases h.2 with ⟨hv,hn⟩|⟨g,cap,cur,hv,_⟩
 · exact ⟨none,0,by rw [hv,hn]⟩
 · exact ⟨_,_,hv⟩
mutual
inductive Tr where
 | one (v:Value)
 | row (l:TrL)
inductive TrS where
 | nil
 | cons (x:Tr) (t:TrS)
inductive TrL where
 | nil
 | cons (s:TrS) (t:TrL)
end
def TrS.len:TrS→Nat
 | .nil=>0
 | .cons _ t=>t.len+1
def TrL.len:TrL→Nat
 | .nil=>0
 | .cons _ t=>t.len+1
def TrL.snoc:TrL→TrS→TrL
 | .nil,s=>.cons s .nil
 | .cons u t,s=>.cons u (t.snoc s)
def okV:Value→Prop
 | .string s=>s.size≤9223372036854775807
 | _=>True
mutual
def TP (w:World) (P:Nat→Prop):Tr→Value→Prop
 | .one v,c=>c=v∧okV v
 | .row l,c=>∃ A k,c=.slice A l.len k∧l.len≤9223372036854775807∧RowT w P l A
def TS (w:World) (P:Nat→Prop):TrS→List Value→Prop
 | .nil,cs=>cs=[]
 | .cons x t,cs=>∃ c ys,cs=c :: ys∧TP w P x c∧TS w P t ys
def RowT (w:World) (P:Nat→Prop):TrL→Option Addr→Prop
 | .nil,_=>True
 | .cons s t,A=>∃ b o cs,A=some ⟨b,o,none⟩∧P b∧(∀ j u,cs[j]? = some u→w.cell? ⟨b,o+j,none⟩=some u)∧TS w P s cs∧RowT w P t (some ⟨b,o+s.len,none⟩)
end
mutual
theorem TP.keep {w w':World} {P P':Nat→Prop} (hP:∀ b,P b→P' b∧w'.heap[b]? = w.heap[b]?):∀ (x:Tr) (c:Value),TP w P x c→TP w' P' x c
 | .one v,c,h=>by unfold TP at h ⊢;exact h
 | .row l,c,h=>by
   unfold TP at h ⊢
   obtain ⟨A,k,h0,h1,h2⟩:=h
   exact ⟨A,k,h0,h1,RowT.keep hP l A h2⟩
theorem TS.keep {w w':World} {P P':Nat→Prop} (hP:∀ b,P b→P' b∧w'.heap[b]? = w.heap[b]?):∀ (s:TrS) (cs:List Value),TS w P s cs→TS w' P' s cs
 | .nil,cs,h=>by unfold TS at h ⊢;exact h
 | .cons x t,cs,h=>by
   unfold TS at h ⊢
   obtain ⟨c,ys,e,h1,h2⟩:=h
   exact ⟨c,ys,e,TP.keep hP x c h1,TS.keep hP t ys h2⟩
theorem RowT.keep {w w':World} {P P':Nat→Prop} (hP:∀ b,P b→P' b∧w'.heap[b]? = w.heap[b]?):∀ (l:TrL) (A:Option Addr),RowT w P l A→RowT w' P' l A
 | .nil,_,_=>by unfold RowT;trivial
 | .cons s t,A,h=>by
   unfold RowT at h ⊢
   obtain ⟨b,o,cs,e,hb,hc,h1,h2⟩:=h
   exact ⟨b,o,cs,e,(hP b hb).1,fun j u hu=>(World.cell?_of_block (a:=⟨b,o+j,none⟩) (hP b hb).2).trans (hc j u hu),TS.keep hP s cs h1,RowT.keep hP t _ h2⟩
end
theorem TS.len {w:World} {P:Nat→Prop} : ∀ {s:TrS} {cs:List Value},TS w P s cs→cs.length=s.len
 | .nil,cs,h=>by unfold TS at h;subst h;rfl
 | .cons x t,cs,h=>by
   unfold TS at h
   obtain ⟨c,ys,rfl,_,h2⟩:=h
   rw [List.length_cons,TS.len h2,TrS.len]
def TLV (w:World) (P:Nat→Prop):TrL→List Value→Prop
 | .nil,xs=>xs=[]
 | .cons s t,xs=>∃ cs ys,xs=cs++ys∧TS w P s cs∧TLV w P t ys
theorem TLV.keep {w w':World} {P P':Nat→Prop} (hP:∀ b,P b→P' b∧w'.heap[b]? = w.heap[b]?):∀ {l:TrL} {xs:List Value},TLV w P l xs→TLV w' P' l xs
 | .nil,_,h=>h
 | .cons s t,xs,h=>by
   obtain ⟨cs,ys,e,h1,h2⟩:=h
   exact ⟨cs,ys,e,TS.keep hP s cs h1,TLV.keep hP h2⟩
theorem TLV.snoc {w:World} {P:Nat→Prop} {s:TrS} {cs:List Value} (hd:TS w P s cs):∀ {l:TrL} {xs:List Value},TLV w P l xs→TLV w P (l.snoc s) (xs++cs)
 | .nil,xs,h=>by
   have:xs=[]:=h
   subst this
   exact ⟨cs,[],by simp,hd,rfl⟩
 | .cons u t,xs,h=>by
   obtain ⟨c,ys,rfl,hv,ht⟩:=h
   exact ⟨c,ys++cs,by simp,hv,TLV.snoc hd ht⟩
theorem RowT.of_cells {w:World} {P:Nat→Prop} {g:Nat} (hg:P g):∀ {l:TrL} {xs:List Value} (i:Nat),TLV w P l xs→(∀ j u,xs[j]? = some u→w.cell? ⟨g,i+j,none⟩=some u)→RowT w P l (some ⟨g,i,none⟩)
 | .nil,_,_,_,_=>by unfold RowT;trivial
 | .cons s t,xs,i,h,hc=>by
   obtain ⟨cs,ys,rfl,hv,ht⟩:=h
   unfold RowT
   refine ⟨g,i,cs,rfl,hg,fun j u hj=>hc j u ?_,hv,RowT.of_cells hg (i+s.len) ht (fun j u hj=>?_)⟩
   · rw [List.getElem?_append_left (List.getElem?_eq_some_iff.1 hj).1];exact hj
   · have:=hc (s.len+j) u (by rw [← hv.len,List.getElem?_append_right (by omega)];simpa using hj)
     rwa [← Nat.add_assoc] at this
theorem row_tl {w:World} {base n:Nat} {ty:TypeId} {V:Value} {P:Nat→Prop} {l:TrL} {xs:List Value} (h:w.ownsRow base ty n V l.len xs) (hv:TLV w P l xs) :
   ∃ A c,V=.slice A l.len c∧RowT w (fun b=>P b∨V.ownBlock=some b) l A:=by
 rcases h.2 with ⟨hV,hn⟩|⟨g,c,cur,hV,_⟩
 · refine ⟨none,0,by rw [hV,hn],?_⟩
   cases l with
   | nil=>unfold RowT;trivial
   | cons v t=>simp [TrL.len] at hn
 · have hg:V.ownBlock=some g:=by rw [hV];rfl
   refine ⟨some ⟨g,0,none⟩,c,hV,RowT.of_cells (.inr hg) 0 (hv.keep (fun b hb=>⟨.inl hb,rfl⟩)) (fun j u hj=>?_)⟩
   have:=h.cells hg j u hj
   rwa [add_at] at this
mutual
def encV:VT→TrS
 | .mk k n s l m=>.cons (.one (.int .i64 k)) (.cons (.one (.int .i64 n)) (.cons (.one (.string s)) (.cons (.row (encL l)) (.cons (.row (encM m)) .nil))))
def encL:VL→TrL
 | .nil=>.nil
 | .cons v t=>.cons (encV v) (encL t)
def encM:VM→TrL
 | .nil=>.nil
 | .cons nm v t=>.cons (.cons (.one (.string nm)) (encV v)) (encM t)
end
theorem encV_len:∀ v:VT,(encV v).len=5
 | .mk _ _ _ _ _=>by rw [encV];rfl
theorem encL_len:∀ l:VL,(encL l).len=l.len
 | .nil=>by rw [encL];rfl
 | .cons v t=>by rw [encL,TrL.len,VL.len,encL_len t]
theorem encM_len:∀ l:VM,(encM l).len=l.len
 | .nil=>by rw [encM];rfl
 | .cons nm v t=>by rw [encM,TrL.len,VM.len,encM_len t]
def shiftA:Option Addr→Nat→Option Addr
 | none,_=>none
 | some ⟨b,o,x⟩,n=>some ⟨b,o+n,x⟩
theorem shiftA_zero (A:Option Addr):shiftA A 0=A:=by
 cases A with
 | none=>rfl
 | some a=>rfl
mutual
theorem vp_ts {w:World} {P:Nat→Prop} : ∀ (v:VT) (c0 c1 c2 c3 c4:Value),VP w P v c0 c1 c2 c3 c4→TS w P (encV v) [c0,c1,c2,c3,c4]
 | .mk k n s l m,c0,c1,c2,c3,c4,h=>by
   unfold VP at h
   obtain ⟨h0,h1,h2,hs,⟨A,c,h3,g3,h4⟩,A',c',h5,g5,h6⟩:=h
   rw [encV]
   simp only [TS,TP]
   refine ⟨_,_,rfl,⟨h0,trivial⟩,_,_,rfl,⟨h1,trivial⟩,_,_,rfl,⟨h2,hs⟩,_,_,rfl,⟨A,c,by rw [encL_len];exact h3,by rw [encL_len];exact g3,?_⟩,_,_,rfl,⟨A',c',by rw [encM_len];exact h5,by rw [encM_len];exact g5,?_⟩,rfl⟩
   · have:=lp_tl l A 0 h4;rwa [Nat.zero_mul,shiftA_zero] at this
   · have:=mp_tl m A' 0 h6;rwa [Nat.zero_mul,shiftA_zero] at this
theorem lp_tl {w:World} {P:Nat→Prop} : ∀ (l:VL) (A:Option Addr) (j:Nat),LP w P l A j→RowT w P (encL l) (shiftA A (j*5))
 | .nil,_,_,_=>by rw [encL];unfold RowT;trivial
 | .cons v t,A,j,h=>by
   unfold LP at h
   obtain ⟨⟨b,o,c0,c1,c2,c3,c4,rfl,hb,hf,hv⟩,ht⟩:=h
   rw [encL]
   unfold RowT
   refine ⟨b,o+j*5,[c0,c1,c2,c3,c4],rfl,hb,fun i u hi=>?_,vp_ts v _ _ _ _ _ hv,?_⟩
   · match i,hi with
     | 0,hi=>cases hi;exact hf.1
     | 1,hi=>cases hi;exact hf.2.1
     | 2,hi=>cases hi;exact hf.2.2.1
     | 3,hi=>cases hi;exact hf.2.2.2.1
     | 4,hi=>cases hi;exact hf.2.2.2.2
   · have:=lp_tl t _ (j+1) ht
     rw [encV_len]
     rwa [show o+j*5+5=o+(j+1)*5 by omega]
theorem mp_tl {w:World} {P:Nat→Prop} : ∀ (l:VM) (A:Option Addr) (j:Nat),MP w P l A j→RowT w P (encM l) (shiftA A (j*6))
 | .nil,_,_,_=>by rw [encM];unfold RowT;trivial
 | .cons nm v t,A,j,h=>by
   unfold MP at h
   obtain ⟨⟨b,o,c0,c1,c2,c3,c4,rfl,hb,hn,hz,hf,hv⟩,ht⟩:=h
   rw [encM]
   unfold RowT
   refine ⟨b,o+j*6,[.string nm,c0,c1,c2,c3,c4],rfl,hb,fun i u hi=>?_,?_,?_⟩
   · match i,hi with
     | 0,hi=>cases hi;exact hn
     | 1,hi=>cases hi;exact hf.1
     | 2,hi=>cases hi;exact hf.2.1
     | 3,hi=>cases hi;exact hf.2.2.1
     | 4,hi=>cases hi;exact hf.2.2.2.1
     | 5,hi=>cases hi;exact hf.2.2.2.2
   · rw [TS]
     exact ⟨_,_,rfl,by unfold TP;exact ⟨rfl,hz⟩,vp_ts v _ _ _ _ _ hv⟩
   · have:=mp_tl t _ (j+1) ht
     rw [TrS.len,encV_len]
     rwa [show o+j*6+(5+1)=o+(j+1)*6 by omega]
end
mutual
theorem ts_vp {w:World} {P:Nat→Prop} : ∀ (v:VT) (cs:List Value),TS w P (encV v) cs→∃ c0 c1 c2 c3 c4,cs=[c0,c1,c2,c3,c4]∧VP w P v c0 c1 c2 c3 c4
 | .mk k n s l m,cs,h=>by
   rw [encV] at h
   simp only [TS,TP] at h
   obtain ⟨c0,_,rfl,⟨h0,_⟩,c1,_,rfl,⟨h1,_⟩,c2,_,rfl,⟨h2,hs⟩,c3,_,rfl,⟨A,c,h3,g3,h4⟩,c4,_,rfl,⟨A',c',h5,g5,h6⟩,rfl⟩:=h
   rw [encL_len] at h3 g3
   rw [encM_len] at h5 g5
   refine ⟨c0,c1,c2,c3,c4,rfl,?_⟩
   unfold VP
   exact ⟨h0,h1,h2,hs,⟨A,c,h3,g3,tl_lp l A 0 (by rw [Nat.zero_mul,shiftA_zero];exact h4)⟩,A',c',h5,g5,tl_mp m A' 0 (by rw [Nat.zero_mul,shiftA_zero];exact h6)⟩
theorem tl_lp {w:World} {P:Nat→Prop} : ∀ (l:VL) (A:Option Addr) (j:Nat),RowT w P (encL l) (shiftA A (j*5))→LP w P l A j
 | .nil,_,_,_=>by unfold LP;trivial
 | .cons v t,A,j,h=>by
   rw [encL] at h
   unfold RowT at h
   obtain ⟨b,o,cs,e,hb,hc,h1,h2⟩:=h
   obtain ⟨c0,c1,c2,c3,c4,rfl,hv⟩:=ts_vp v cs h1
   cases A with
   | none=>cases e
   | some a =>
     obtain ⟨b',o',x⟩:=a
     have e:=Option.some.inj e
     injection e with e1 e2 e3
     subst e1 e2 e3
     unfold LP
     refine ⟨⟨b',o',c0,c1,c2,c3,c4,rfl,hb,⟨hc 0 _ rfl,hc 1 _ rfl,hc 2 _ rfl,hc 3 _ rfl,hc 4 _ rfl⟩,hv⟩,tl_lp t _ (j+1) ?_⟩
     rw [encV_len] at h2
     rwa [show shiftA (some (⟨b',o',none⟩:Addr)) ((j+1)*5)=some ⟨b',o'+j*5+5,none⟩ by rw [shiftA];congr 2;omega]
theorem tl_mp {w:World} {P:Nat→Prop} : ∀ (l:VM) (A:Option Addr) (j:Nat),RowT w P (encM l) (shiftA A (j*6))→MP w P l A j
 | .nil,_,_,_=>by unfold MP;trivial
 | .cons nm v t,A,j,h=>by
   rw [encM] at h
   unfold RowT at h
   obtain ⟨b,o,cs,e,hb,hc,h1,h2⟩:=h
   rw [TS] at h1
   obtain ⟨c,ys,rfl,h0,h1⟩:=h1
   unfold TP at h0
   obtain ⟨rfl,hz⟩:=h0
   obtain ⟨c0,c1,c2,c3,c4,rfl,hv⟩:=ts_vp v ys h1
   cases A with
   | none=>cases e
   | some a =>
     obtain ⟨b',o',x⟩:=a
     have e:=Option.some.inj e
     injection e with e1 e2 e3
     subst e1 e2 e3
     unfold MP
     refine ⟨⟨b',o',c0,c1,c2,c3,c4,rfl,hb,hc 0 _ rfl,hz,⟨hc 1 _ rfl,hc 2 _ rfl,hc 3 _ rfl,hc 4 _ rfl,hc 5 _ rfl⟩,hv⟩,tl_mp t _ (j+1) ?_⟩
     rw [TrS.len,encV_len] at h2
     rwa [show shiftA (some (⟨b',o',none⟩:Addr)) ((j+1)*6)=some ⟨b',o'+j*6+(5+1),none⟩ by rw [shiftA];congr 2;omega]
end
abbrev DirT:=ByteArray × VM
mutual
inductive SelT where
 | mk (kind:Int) (alias name:ByteArray) (args:VM) (dirs:List DirT) (on:ByteArray) (sels:SelL)
inductive SelL where
 | nil
 | cons (x:SelT) (t:SelL)
end
def SelL.len:SelL→Nat
 | .nil=>0
 | .cons _ t=>t.len+1
def SelL.snoc:SelL→SelT→SelL
 | .nil,x=>.cons x .nil
 | .cons u t,x=>.cons u (t.snoc x)
structure VarT where
 name:ByteArray
 tn:ByteArray
 tl:Int
 tm:Int
 has:Bool
 v:VT
def rowOf {α:Type} (f:α→TrS):List α→TrL
 | []=>.nil
 | a :: t=>.cons (f a) (rowOf f t)
theorem rowOf_len {α:Type} (f:α→TrS):∀ l:List α,(rowOf f l).len=l.length
 | []=>rfl
 | a :: t=>by rw [rowOf,TrL.len,rowOf_len f t];rfl
theorem rowOf_snoc {α:Type} (f:α→TrS):∀ (l:List α) (a:α),rowOf f (l++[a])=(rowOf f l).snoc (f a)
 | [],a=>rfl
 | b :: t,a=>by rw [List.cons_append,rowOf,rowOf,TrL.snoc,rowOf_snoc f t]
def encD (d:DirT):TrS:=.cons (.one (.string d.1)) (.cons (.row (encM d.2)) .nil)
def encVar (x:VarT):TrS:=.cons (.one (.string x.name)) (.cons (.one (.string x.tn)) (.cons (.one (.int .i64 (x.tl:Int))) (.cons (.one (.int .i64 (x.tm:Int))) (.cons (.one (.bool x.has)) (encV x.v)))))
structure FieldT where
 name:ByteArray
 params:List VarT
 tn:ByteArray
 tl:Int
 tm:Int
 dirs:List DirT
structure DefnT where
 kind:Int
 name:ByteArray
 faces:List ByteArray
 fields:List FieldT
 parts:List ByteArray
 params:List VarT
structure SchT where
 defs:List DefnT
 query:ByteArray
 mutation:ByteArray
def encStr (s:ByteArray):TrS:=.cons (.one (.string s)) .nil
def encField (x:FieldT):TrS:=.cons (.one (.string x.name)) (.cons (.row (rowOf encVar x.params)) (.cons (.one (.string x.tn)) (.cons (.one (.int .i64 (x.tl:Int))) (.cons (.one (.int .i64 (x.tm:Int))) (.cons (.row (rowOf encD x.dirs)) .nil)))))
def encDefn (x:DefnT):TrS:=.cons (.one (.int .i64 x.kind)) (.cons (.one (.string x.name)) (.cons (.row (rowOf encStr x.faces)) (.cons (.row (rowOf encField x.fields)) (.cons (.row (rowOf encStr x.parts)) (.cons (.row (rowOf encVar x.params)) .nil)))))
def encSch (x:SchT):TrS:=.cons (.row (rowOf encDefn x.defs)) (.cons (.one (.string x.query)) (.cons (.one (.string x.mutation)) .nil))
def hasN (out:List ByteArray) (s:ByteArray):Bool:=out.any fun t=>t.data.toList == s.data.toList
theorem hasN_iff {out:List ByteArray} {s:ByteArray} : hasN out s=true ↔ s ∈ out:=by
 unfold hasN
 rw [List.any_eq_true]
 constructor
 · rintro ⟨t,h,e⟩
   have:t=s:=ByteArray.ext (Array.toList_inj.1 (by simpa using e))
   rwa [← this]
 · intro h
   exact ⟨s,h,by simp⟩
def addN (out:List ByteArray) (s:ByteArray):List ByteArray:=if hasN out s=true then out else out++[s]
def KS (w:World) (a3 a4 b3 b4:Value) (W:World):Prop:=W.cell? ⟨w.heap.size,3,none⟩=some a3∧W.cell? ⟨w.heap.size,4,none⟩=some a4∧W.cell? ⟨w.heap.size+1,3,none⟩=some b3∧W.cell? ⟨w.heap.size+1,4,none⟩=some b4∧Below w.heap.size w W∧w.heap.size+1 < W.heap.size
theorem KS.below {w W:World} {a3 a4 b3 b4:Value} (h:KS w a3 a4 b3 b4 W):Below w.heap.size w W:=h.2.2.2.2.1
theorem rowOf_at {α:Type} {f:α→TrS} {w:World} {P:Nat→Prop} (n:Nat) (hn:∀ a,(f a).len=n):∀ {l:List α} {A:Option Addr} {q:Nat} {x:α},RowT w P (rowOf f l) A→l[q]? = some x →
   ∃ b o cs,A=some ⟨b,o,none⟩∧P b∧(∀ j u,cs[j]? = some u→w.cell? ⟨b,o+q*n+j,none⟩=some u)∧TS w P (f x) cs
 | [],_,_,_,_,h=>by simp at h
 | a :: t,A,0,x,h,hx=>by
   obtain rfl:a=x:=by simpa using hx
   rw [rowOf] at h
   unfold RowT at h
   obtain ⟨b,o,cs,e,hb,hc,h1,_⟩:=h
   exact ⟨b,o,cs,e,hb,fun j u hj=>by rw [Nat.zero_mul,Nat.add_zero];exact hc j u hj,h1⟩
 | a :: t,A,q+1,x,h,hx=>by
   rw [rowOf] at h
   unfold RowT at h
   obtain ⟨b,o,cs,e,hb,hc,h1,h2⟩:=h
   have hx:t[q]? = some x:=by simpa using hx
   obtain ⟨b',o',cs',e',hb',hc',h1'⟩:=rowOf_at n hn h2 hx
   have e':=Option.some.inj e'
   injection e' with e1 e2 _
   subst e1 e2
   rw [hn] at hc'
   exact ⟨b,o,cs',e,hb,fun j u hj=>by rw [Nat.add_mul,Nat.one_mul,Nat.add_comm (q*n) n,← Nat.add_assoc];exact hc' j u hj,h1'⟩
theorem RowT.below {w w':World} {B:Nat} (hb:Below B w w') {l:TrL} {A:Option Addr} (h:RowT w (fun b=>b < B) l A):RowT w' (fun b=>b < B) l A:=
 RowT.keep (fun b hlt=>⟨hlt,hb.block b hlt⟩) _ _ h
theorem mat_of {w:World} {B:Nat} {m:VM} {A:Option Addr} (h:RowT w (fun b=>b < B) (encM m) A):MAt w B m A 0:=MP.at (fun _ h=>h) m A 0 (tl_mp m A 0 (by rw [Nat.zero_mul,shiftA_zero];exact h))
theorem encD_len (d:DirT):(encD d).len=2:=rfl
theorem dir_at {w:World} {B:Nat} {l:List DirT} {A:Option Addr} {q:Nat} {nm:ByteArray} {m:VM} (h:RowT w (fun b=>b < B) (rowOf encD l) A) (hx:l[q]? = some (nm,m)) :
  ∃ b o A2 k2,A=some ⟨b,o,none⟩∧b < B∧w.cell? ⟨b,o+q*2,none⟩=some (.string nm)∧w.cell? ⟨b,o+q*2+1,none⟩=some (.slice A2 m.len k2)∧m.len≤9223372036854775807∧MAt w B m A2 0:=by
 obtain ⟨b,o,cs,e,hb,hc,h1⟩:=rowOf_at 2 encD_len h hx
 simp only [encD,TS,TP] at h1
 obtain ⟨c0,_,rfl,⟨rfl,_⟩,c1,_,rfl,⟨A2,k2,rfl,hl,hM⟩,rfl⟩:=h1
 rw [encM_len] at hc hl
 exact ⟨b,o,A2,k2,e,hb,hc 0 _ rfl,hc 1 _ rfl,hl,mat_of hM⟩
def KD (w:World) (b O:Nat) (nm d:Value) (b' O':Nat) (nm' f:Value) (W:World):Prop:=
 W.cell? ⟨b,O,none⟩=some nm∧W.cell? ⟨b,O+1,none⟩=some d∧W.cell? ⟨b',O',none⟩=some nm'∧W.cell? ⟨b',O'+1,none⟩=some f∧Below w.heap.size w W
end Go.Proofs.YtaekdfcpbepepaaGreatDoor
namespace Go.Proofs.YtaekdfcpbepepaaGreatDoor.Blk
open Go.RowKit
theorem Aside.intro {p:Prop} (h:p):Aside p:=h
theorem ret_bool {a b:Bool} (h:a=b):Ending.returned (.bool a)=.returned (.bool b):=by rw [h]
theorem below_draws {B:Nat} {a w:World} (h:Below B a w) (n:Nat):Below B a (w.drewN n):=⟨h.os,h.tape,h.output,h.size,h.block⟩
theorem own_form {w:World} {base:Nat} {e:TypeId} {v:Value} {n:Nat} {xs:List Value} (h:w.ownsRow base e 1 v n xs):∃ A cap,v=.slice A n cap:=by
 rcases h.2 with ⟨hv,hn⟩|⟨g,cap,cur,hv,_⟩
 · exact ⟨none,0,by rw [hv,hn]⟩
 · exact ⟨_,_,hv⟩
def StrsAt (w:World) (B:Nat) (A:Option Addr) (n:Nat) (xs:List ByteArray):Prop:=
 xs.length=n∧∀ (j:Nat) x,xs[j]? = some x→∃ b o,A=some ⟨b,o,none⟩∧b < B∧w.cell? ⟨b,o+j,none⟩=some (.string x)
theorem StrsAt.below {w w':World} {B:Nat} {A:Option Addr} {n:Nat} {xs:List ByteArray} (h:StrsAt w B A n xs) (hb:Below B w w'):StrsAt w' B A n xs:=
 ⟨h.1,fun j z hz=>by
  obtain ⟨b,o,e,hlt,hc⟩:=h.2 j z hz
  exact ⟨b,o,e,hlt,(hb.cell (p:=⟨b,o+j,none⟩) hlt).trans hc⟩⟩
theorem StrsAt.more {w:World} {B B':Nat} {A:Option Addr} {n:Nat} {xs:List ByteArray} (h:StrsAt w B A n xs) (hB:B≤B'):StrsAt w B' A n xs:=
 ⟨h.1,fun j z hz=>by
  obtain ⟨b,o,e,hlt,hc⟩:=h.2 j z hz
  exact ⟨b,o,e,by omega,hc⟩⟩
theorem strs_of_own {w:World} {base n:Nat} {A:Option Addr} {cap:Nat} {xs:List ByteArray} (h:w.ownsRow base 9 1 (.slice A n cap) xs.length (xs.map Value.string)):n=xs.length∧StrsAt w w.heap.size A xs.length xs:=by
 rcases h.2 with ⟨hv,hn⟩|⟨g,c,cur,hv,hbase,hh,hnc,hm,hcs,htk⟩
 · injection hv with h1 h2 h3
   have hus:xs=[]:=List.eq_nil_of_length_eq_zero hn
   subst hus
   exact ⟨by simpa using h2,⟨rfl,fun j z hz=>by simp at hz⟩⟩
 · have hv':=hv
   injection hv' with h1 h2 h3
   subst h1
   refine ⟨h2,rfl,fun j z hz=>⟨g,0,rfl,?_,?_⟩⟩
   · exact (h.lt g rfl).2
   · subst h2 h3
     rw [Nat.zero_add,World.ownsRow.cellAt h j (by have:=(List.getElem?_eq_some_iff.1 hz).1;omega),List.getElem?_map,hz]
     rfl
end Go.Proofs.YtaekdfcpbepepaaGreatDoor.Blk
namespace Go.Proofs.YtaekdfcpbepepaaGreatDoor
open Go.RowKit
theorem str_row {w:World} {B:Nat} {l:List ByteArray} {A:Option Addr} (h:RowT w (fun b=>b < B) (rowOf encStr l) A):Blk.StrsAt w B A l.length l:=
 ⟨rfl,fun j x hx=>by
  obtain ⟨b,o,cs,e,hb,hc,h1⟩:=rowOf_at 1 (fun _=>rfl) h hx
  simp only [encStr,TS,TP] at h1
  obtain ⟨c0,_,rfl,⟨rfl,_⟩,rfl⟩:=h1
  have:=hc 0 _ rfl
  rw [Nat.mul_one,Nat.add_zero] at this
  exact ⟨b,o,e,hb,this⟩⟩
def StrB (l:List ByteArray):Prop:=∀ s,s ∈ l→s.size≤9223372036854775807
theorem str_bd {w:World} {P:Nat→Prop} : ∀ {l:List ByteArray} {A:Option Addr},RowT w P (rowOf encStr l) A→StrB l
 | [],_,_=>fun s h=>by simp at h
 | a :: t,A,h=>fun s hs=>by
   rw [rowOf] at h
   unfold RowT at h
   obtain ⟨b,o,cs,_,_,_,h1,h2⟩:=h
   rcases List.mem_cons.1 hs with rfl|hs
   · simp only [encStr,TS,TP] at h1
     obtain ⟨_,_,_,⟨_,hz⟩,_⟩:=h1
     exact hz
   · exact str_bd h2 s hs
theorem hasN_take {xs:List ByteArray} {s x:ByteArray} {k:Nat} (h:hasN (xs.take k) s=false) (hx:xs[k]? = some x) (hne : ¬ x=s):hasN (xs.take (k+1)) s=false:=by
 cases h':hasN (xs.take (k+1)) s with
 | false=>rfl
 | true =>
   have:=hasN_iff.1 h'
   rw [List.take_add_one,hx] at this
   rcases List.mem_append.1 this with h1|h1
   · rw [hasN_iff.2 h1] at h;cases h
   · simp at h1;exact absurd h1.symm hne
def IdxI (b:Bool) (w:World) (e:Ending) (w':World):Prop:=∃ k:Int,e=.returned (.int .i64 k)∧decide (0≤k)=b∧Below w.heap.size w w'
theorem index_s (A:Option Addr) (n c:Nat) (xs:List ByteArray) (s:ByteArray) (w:World) (hn:n≤9223372036854775807) (ha:Blk.StrsAt w w.heap.size A n xs) :
  Calls Tryz.prog 141 #[.slice A n c,.string s] w (IdxI (hasN xs s) w):=by
 have HA:=Hd ha
 clear ha
 go_enter Tryz.func141,Tryz.ntmps141
 go_wp2_with fail
 go_loopg [5,8] n (fun g _ i wx=>∃ k:Nat,k+g=n∧i=.int .i64 k∧(∃ m,w.drewN m=wx)∧Aside (hasN (xs.take k) s=false))
 case atStart=>exact ⟨0,by omega,rfl,⟨0,rfl⟩,Blk.Aside.intro (by rw [List.take_zero];rfl)⟩
 case round =>
  obtain ⟨k,hk,rfl,⟨m,rfl⟩,H⟩:=hrel
  cases gk with
  | zero =>
    obtain rfl:k=n:=by omega
    have hd:Hid (hasN xs s=false):=Hd (by
      have h:=H.out
      rwa [List.take_of_length_le (by rw [HA.out.1];omega)] at h)
    clear H
    go_wp2_with fail
    go_ret
    exact ⟨-1,rfl,by rw [hd.out];rfl,Blk.below_draws (Below.refl _ _) m⟩
  | succ g =>
    have hlt:k < n:=by omega
    have hlt':(k:Int) < (n:Int):=by omega
    obtain ⟨x,hx⟩:∃ x,xs[k]? = some x:=⟨_,List.getElem?_eq_getElem (by rw [HA.out.1];omega)⟩
    obtain ⟨b1,o1,rfl,hl1,c1⟩:=HA.out.2 k x hx
    have HX:=Hd hx
    clear hx
    by_cases hxy:x=s
    · subst hxy
      have e1':(x.toList == x.toList)=true:=by simp
      have hT:Hid (hasN xs x=true):=Hd (hasN_iff.2 (List.mem_of_getElem? HX.out))
      clear H
      go_wp2_with fail
      go_ret
      exact ⟨(k:Int),rfl,by rw [hT.out];simp,Blk.below_draws (Below.refl _ _) _⟩
    · have hne:x.toList ≠ s.toList:=fun h=>hxy (by
       rw [Lib.toList_data,Lib.toList_data] at h
       exact ByteArray.ext (Array.toList_inj.1 h))
      have e1':(x.toList == s.toList)=false:=by simpa using hne
      have e2':(s.toList == x.toList)=false:=by simpa using fun h=>hne h.symm
      clear hne
      have hT:=Hd (hasN_take H.out HX.out hxy)
      clear H hxy
      go_wp2_with fail
      go_roundg g
      case measure=>omega
      case rel=>exact ⟨k+1,by omega,by go_num,⟨_,rfl⟩,Blk.Aside.intro hT.out⟩
theorem contains_s (A:Option Addr) (n c:Nat) (xs:List ByteArray) (s:ByteArray) (w:World) (hn:n≤9223372036854775807) (ha:Blk.StrsAt w w.heap.size A n xs) :
  Calls Tryz.prog 86 #[.slice A n c,.string s] w fun e w'=>e=.returned (.bool (hasN xs s))∧Below w.heap.size w w':=by
 have C:=Hd (index_s A n c xs s w hn ha)
 clear ha hn
 go_enter Tryz.func86,Tryz.ntmps86
 go_wp2_with fail
 refine C.out.mono ?_
 rintro e w1 ⟨k,rfl,hk,hb⟩
 have HB:=Hd hb
 have HK:=Hd hk
 clear hk hb
 go_wp2_with fail
 go_ret
 exact ⟨Blk.ret_bool HK.out,HB.out⟩
def IntsAt (w:World) (B:Nat) (A:Option Addr) (l:List Int):Prop:=∀ (j:Nat) x,l[j]? = some x→∃ b o,A=some ⟨b,o,none⟩∧b < B∧w.cell? ⟨b,o+j,none⟩=some (.int .i64 x)
theorem IntsAt.below {w w':World} {B:Nat} {A:Option Addr} {l:List Int} (h:IntsAt w B A l) (hb:Below B w w'):IntsAt w' B A l:=
 fun j z hz=>by
  obtain ⟨b,o,e,hlt,hc⟩:=h j z hz
  exact ⟨b,o,e,hlt,(hb.cell (p:=⟨b,o+j,none⟩) hlt).trans hc⟩
def hasI (l:List Int) (x:Int):Bool:=l.any fun y=>y == x
theorem hasI_take {xs:List Int} {s x:Int} {k:Nat} (h:hasI (xs.take k) s=false) (hx:xs[k]? = some x) (hne : ¬ x=s):hasI (xs.take (k+1)) s=false:=by
 unfold hasI at h ⊢
 rw [List.take_add_one,hx,List.any_append,h]
 simpa using hne
theorem hasI_mem {xs:List Int} {k:Nat} {x:Int} (h:xs[k]? = some x):hasI xs x=true:=by
 unfold hasI
 rw [List.any_eq_true]
 exact ⟨x,List.mem_of_getElem? h,by simp⟩
theorem index_i (A:Option Addr) (n c:Nat) (xs:List Int) (s:Int) (w:World) (hn:n≤9223372036854775807) (hl:xs.length=n) (ha:IntsAt w w.heap.size A xs) :
  Calls Tryz.prog 138 #[.slice A n c,.int .i64 s] w (IdxI (hasI xs s) w):=by
 have HA:=Hd ha
 have HL:=Hd hl
 clear ha hl
 go_enter Tryz.func138,Tryz.ntmps138
 go_wp2_with fail
 go_loopg [5,8] n (fun g _ i wx=>∃ k:Nat,k+g=n∧i=.int .i64 k∧(∃ m,w.drewN m=wx)∧Aside (hasI (xs.take k) s=false))
 case atStart=>exact ⟨0,by omega,rfl,⟨0,rfl⟩,Blk.Aside.intro (by rw [List.take_zero];rfl)⟩
 case round =>
  obtain ⟨k,hk,rfl,⟨m,rfl⟩,H⟩:=hrel
  cases gk with
  | zero =>
    obtain rfl:k=n:=by omega
    have hd:Hid (hasI xs s=false):=Hd (by
      have h:=H.out
      rwa [List.take_of_length_le (by rw [HL.out];omega)] at h)
    clear H
    go_wp2_with fail
    go_ret
    exact ⟨-1,rfl,by rw [hd.out];rfl,Blk.below_draws (Below.refl _ _) m⟩
  | succ g =>
    have hlt:k < n:=by omega
    have hlt':(k:Int) < (n:Int):=by omega
    obtain ⟨x,hx⟩:∃ x,xs[k]? = some x:=⟨_,List.getElem?_eq_getElem (by rw [HL.out];omega)⟩
    obtain ⟨b1,o1,rfl,hl1,c1⟩:=HA.out k x hx
    have HX:=Hd hx
    clear hx
    by_cases hxy:x=s
    · subst hxy
      have e1':(x == x)=true:=by simp
      have hT:Hid (hasI xs x=true):=Hd (hasI_mem HX.out)
      clear H
      go_wp2_with fail
      go_ret
      exact ⟨(k:Int),rfl,by rw [hT.out];simp,Blk.below_draws (Below.refl _ _) _⟩
    · have e1':(x == s)=false:=by simpa using hxy
      have e2':(s == x)=false:=by simpa using fun h=>hxy h.symm
      have hT:=Hd (hasI_take H.out HX.out hxy)
      clear H hxy
      go_wp2_with fail
      go_roundg g
      case measure=>omega
      case rel=>exact ⟨k+1,by omega,by go_num,⟨_,rfl⟩,Blk.Aside.intro hT.out⟩
theorem contains_i (A:Option Addr) (n c:Nat) (xs:List Int) (s:Int) (w:World) (hn:n≤9223372036854775807) (hl:xs.length=n) (ha:IntsAt w w.heap.size A xs) :
  Calls Tryz.prog 83 #[.slice A n c,.int .i64 s] w fun e w'=>e=.returned (.bool (hasI xs s))∧Below w.heap.size w w':=by
 have C:=Hd (index_i A n c xs s w hn hl ha)
 clear ha hn hl
 go_enter Tryz.func83,Tryz.ntmps83
 go_wp2_with fail
 refine C.out.mono ?_
 rintro e w1 ⟨k,rfl,hk,hb⟩
 have HB:=Hd hb
 have HK:=Hd hk
 clear hk hb
 go_wp2_with fail
 go_ret
 exact ⟨Blk.ret_bool HK.out,HB.out⟩
def VT.zero:VT:=.mk 0 0 ⟨#[]⟩ .nil .nil
def getM:VM→ByteArray→VT × Bool
 | .nil,_=>(.zero,false)
 | .cons nm v t,s=>if nm=s then (v,true) else getM t s
def VM.drop:VM→Nat→VM
 | m,0=>m
 | .nil,_+1=>.nil
 | .cons _ _ t,j+1=>t.drop j
theorem VM.drop_get:∀ {m:VM} {j:Nat} {nm:ByteArray} {v:VT},m.get j=some (nm,v)→m.drop j=.cons nm v (m.drop (j+1))
 | .nil,_,_,_,h=>by simp [VM.get] at h
 | .cons x u t,0,nm,v,h=>by
   have:x=nm∧u=v:=by simpa [VM.get] using h
   obtain ⟨rfl,rfl⟩:=this
   cases t<;>rfl
 | .cons x u t,j+1,nm,v,h=>by
   have:=VM.drop_get (m:=t) (j:=j) (nm:=nm) (v:=v) h
   exact this
theorem VM.drop_all:∀ (m:VM),m.drop m.len=.nil
 | .nil=>rfl
 | .cons _ _ t=>VM.drop_all t
theorem VM.drop_zero (m:VM):m.drop 0=m:=by cases m<;>rfl
theorem zeroAt (w:World) (B:Nat):VAt w B .zero (.int .i64 0) (.int .i64 0) (.string ⟨#[]⟩) (.slice none 0 0) (.slice none 0 0):=by
 unfold VT.zero VAt
 exact ⟨rfl,rfl,rfl,Nat.zero_le _,⟨none,0,rfl,by simp [VL.len],by unfold LAt;trivial⟩,none,0,rfl,by simp [VM.len],by unfold MAt;trivial⟩
theorem ret_v2 {R:Ending→World→Prop} {fn:Func} {a:Act} {W:World} {c0 c1 c2 c3 c4:Value} {p u b:Nat} (hf:fn.results=#[.cell p 58,.tmp u]) (h2:a.tmps.getD p undef=.pointer (some ⟨b,0,none⟩)) (hd:a.defers=[])
  (hc:W.heap[b]? = some (.cells #[c0,c1,c2,c3,c4] 58 (0,0))) (hR:R (.returned (.tuple #[.agg #[c0,c1,c2,c3,c4],a.tmps.getD u undef])) W):bodyPost Tryz.prog fn R .ret a W:=by
 have hl:(loadVar 58 ⟨b,0,none⟩).run Tryz.prog W=.ok (.agg #[c0,c1,c2,c3,c4]) W:=
  run_loadVar_row W b 58 58 #[c0,c1,c2,c3,c4] (0,0) _ hc Tryz.underlying58 rfl (by kernel_rfl)
 refine bodyPost_ret ?_ hd hR
 have h2':a.tmps[p]?.getD undef=.pointer (some ⟨b,0,none⟩):=by rw [← h2];simp
 simp [results,hf,h2',asAddr,hl]
theorem got {B:Nat} {w w':World} {x:VT × Bool} {c0 c1 c2 c3 c4:Value} {b:Bool} (hb:b=x.2) (h:VAt w' B x.1 c0 c1 c2 c3 c4) (hw:Below w.heap.size w w') :
 ∃ d0 d1 d2 d3 d4,Ending.returned (.tuple #[.agg #[c0,c1,c2,c3,c4],.bool b])=.returned (.tuple #[.agg #[d0,d1,d2,d3,d4],.bool x.2])∧VAt w' B x.1 d0 d1 d2 d3 d4∧Below w.heap.size w w':=⟨c0,c1,c2,c3,c4,by rw [hb],h,hw⟩
end Go.Proofs.YtaekdfcpbepepaaGreatDoor
