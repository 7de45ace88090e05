/- Values as plain trees, how they lie in memory, and a value that comes in, opened. -/
import Derived.Test.YtaekdfcpbepepaaGreatDoorRows
import Derived.WalkKit
import Derived.ProofKit
import Derived.Carry
import Derived.Deep.Strs
import Derived.Deep.Slices
import Derived.Lib.Hide
import Derived.Deep.LoopGhost
import Derived.Deep.WholeRow
import Derived.Deep.RegionHeld3
import Derived.Shelf.Abstract
import Derived.Deep.QuietTactic
import Derived.BigQuiet
import Derived.Deep.Draws
import Derived.Laws.AppendOwn
import Derived.Laws.OwnMore
import Derived.OwnWalk
import Derived.Deep.AppendLies
set_option maxRecDepth 100000
set_option maxHeartbeats 4000000
namespace Go.Proofs.YtaekdfcpbepepaaGreatDoor
theorem Hd {p:Prop} (h:p):Go.RowKit.Hid p:=Go.Lib.hid h
theorem stT {a:List Value} {i:Nat} {x:Value} : a.toArray.setIfInBounds i x=(a.set i x).toArray:=by simp
theorem stZ {x y:Value} {a:List Value} : (x :: a).set 0 y=y :: a:=rfl
theorem stS {x y:Value} {a:List Value} {i:Nat} : (x :: a).set (i+1) y=x :: a.set i y:=rfl
end Go.Proofs.YtaekdfcpbepepaaGreatDoor
namespace Go.Proofs.YtaekdfcpbepepaaGreatDoor
open Go.ChangeShapes Go.WideShapes Go.ChangeAt Go.RowKit
mutual
inductive VT where
 | mk (k n:Int) (s:ByteArray) (l:VL) (m:VM)
inductive VL where
 | nil
 | cons (v:VT) (t:VL)
inductive VM where
 | nil
 | cons (name:ByteArray) (v:VT) (t:VM)
end
def VL.len:VL→Nat
 | .nil=>0
 | .cons _ t=>t.len+1
def VM.len:VM→Nat
 | .nil=>0
 | .cons _ _ t=>t.len+1
def VL.get:VL→Nat→Option VT
 | .nil,_=>none
 | .cons v _,0=>some v
 | .cons _ t,j+1=>t.get j
def VM.get:VM→Nat→Option (ByteArray × VT)
 | .nil,_=>none
 | .cons nm v _,0=>some (nm,v)
 | .cons _ _ t,j+1=>t.get j
theorem VL.get_lt:∀ {l:VL} {j:Nat},j < l.len→∃ v,l.get j=some v
 | .nil,_,h=>by simp [VL.len] at h
 | .cons v _,0,_=>⟨v,rfl⟩
 | .cons _ t,j+1,h=>VL.get_lt (l:=t) (by simp [VL.len] at h;omega)
theorem VM.get_lt:∀ {l:VM} {j:Nat},j < l.len→∃ v,l.get j=some v
 | .nil,_,h=>by simp [VM.len] at h
 | .cons nm v _,0,_=>⟨(nm,v),rfl⟩
 | .cons _ _ t,j+1,h=>VM.get_lt (l:=t) (by simp [VM.len] at h;omega)
def Five (w:World) (b o:Nat) (c0 c1 c2 c3 c4:Value):Prop:=w.cell? ⟨b,o,none⟩=some c0∧w.cell? ⟨b,o+1,none⟩=some c1∧w.cell? ⟨b,o+2,none⟩=some c2∧w.cell? ⟨b,o+3,none⟩=some c3∧w.cell? ⟨b,o+4,none⟩=some c4
theorem Five.below {w w':World} {B b o:Nat} {c0 c1 c2 c3 c4:Value} (h:Five w b o c0 c1 c2 c3 c4) (hb:Below B w w') (hlt:b < B):Five w' b o c0 c1 c2 c3 c4:=
 ⟨(hb.cell (p:=⟨b,_,none⟩) hlt).trans h.1,(hb.cell (p:=⟨b,_,none⟩) hlt).trans h.2.1,(hb.cell (p:=⟨b,_,none⟩) hlt).trans h.2.2.1,(hb.cell (p:=⟨b,_,none⟩) hlt).trans h.2.2.2.1,(hb.cell (p:=⟨b,_,none⟩) hlt).trans h.2.2.2.2⟩
mutual
def VAt (w:World) (B:Nat):VT→Value→Value→Value→Value→Value→Prop
 | .mk k n s l m,c0,c1,c2,c3,c4=>c0=.int .i64 k∧c1=.int .i64 n∧c2=.string s∧s.size≤9223372036854775807∧(∃ A c,c3=.slice A l.len c∧l.len≤9223372036854775807∧LAt w B l A 0)∧∃ A c,c4=.slice A m.len c∧m.len≤9223372036854775807∧MAt w B m A 0
def LAt (w:World) (B:Nat):VL→Option Addr→Nat→Prop
 | .nil,_,_=>True
 | .cons v t,A,j=>(∃ b o c0 c1 c2 c3 c4,A=some ⟨b,o,none⟩∧b < B∧Five w b (o+j*5) c0 c1 c2 c3 c4∧VAt w B v c0 c1 c2 c3 c4)∧LAt w B t A (j+1)
def MAt (w:World) (B:Nat):VM→Option Addr→Nat→Prop
 | .nil,_,_=>True
 | .cons nm v t,A,j=>(∃ b o c0 c1 c2 c3 c4,A=some ⟨b,o,none⟩∧b < B∧w.cell? ⟨b,o+j*6,none⟩=some (.string nm)∧nm.size≤9223372036854775807∧Five w b (o+j*6+1) c0 c1 c2 c3 c4∧VAt w B v c0 c1 c2 c3 c4)∧MAt w B t A (j+1)
end
mutual
theorem VAt.below {w w':World} {B:Nat} (hb:Below B w w'):∀ (v:VT) (c0 c1 c2 c3 c4:Value),VAt w B v c0 c1 c2 c3 c4→VAt w' B v c0 c1 c2 c3 c4
 | .mk k n s l m,c0,c1,c2,c3,c4,h=>by
   unfold VAt at h ⊢
   obtain ⟨h0,h1,h2,hs,⟨A,c,h3,g3,h4⟩,A',c',h5,g5,h6⟩:=h
   exact ⟨h0,h1,h2,hs,⟨A,c,h3,g3,LAt.below hb l A 0 h4⟩,A',c',h5,g5,MAt.below hb m A' 0 h6⟩
theorem LAt.below {w w':World} {B:Nat} (hb:Below B w w'):∀ (l:VL) (A:Option Addr) (j:Nat),LAt w B l A j→LAt w' B l A j
 | .nil,_,_,_=>by unfold LAt;trivial
 | .cons v t,A,j,h=>by
   unfold LAt at h ⊢
   obtain ⟨⟨b,o,c0,c1,c2,c3,c4,hA,hlt,hf,hv⟩,ht⟩:=h
   exact ⟨⟨b,o,c0,c1,c2,c3,c4,hA,hlt,hf.below hb hlt,VAt.below hb v _ _ _ _ _ hv⟩,LAt.below hb t A (j+1) ht⟩
theorem MAt.below {w w':World} {B:Nat} (hb:Below B w w'):∀ (l:VM) (A:Option Addr) (j:Nat),MAt w B l A j→MAt w' B l A j
 | .nil,_,_,_=>by unfold MAt;trivial
 | .cons nm v t,A,j,h=>by
   unfold MAt at h ⊢
   obtain ⟨⟨b,o,c0,c1,c2,c3,c4,hA,hlt,hn,hz,hf,hv⟩,ht⟩:=h
   exact ⟨⟨b,o,c0,c1,c2,c3,c4,hA,hlt,(hb.cell (p:=⟨b,_,none⟩) hlt).trans hn,hz,hf.below hb hlt,VAt.below hb v _ _ _ _ _ hv⟩,MAt.below hb t A (j+1) ht⟩
end
theorem LAt.at {w:World} {B:Nat} : ∀ {l:VL} {A:Option Addr} {i j:Nat} {v:VT},LAt w B l A i→l.get j=some v→∃ b o c0 c1 c2 c3 c4,A=some ⟨b,o,none⟩∧b < B∧Five w b (o+(i+j)*5) c0 c1 c2 c3 c4∧VAt w B v c0 c1 c2 c3 c4
 | .nil,_,_,_,_,_,h=>by simp [VL.get] at h
 | .cons u t,A,i,0,v,h,hg=>by
   unfold LAt at h
   have:u=v:=by simpa [VL.get] using hg
   subst this
   exact h.1
 | .cons u t,A,i,j+1,v,h,hg=>by
   unfold LAt at h
   have:=LAt.at h.2 (j:=j) (v:=v) hg
   rwa [show i+1+j=i+(j+1) by omega] at this
theorem MAt.at {w:World} {B:Nat} : ∀ {l:VM} {A:Option Addr} {i j:Nat} {nm:ByteArray} {v:VT},MAt w B l A i→l.get j=some (nm,v)→∃ b o c0 c1 c2 c3 c4,A=some ⟨b,o,none⟩∧b < B∧w.cell? ⟨b,o+(i+j)*6,none⟩=some (.string nm)∧nm.size≤9223372036854775807∧Five w b (o+(i+j)*6+1) c0 c1 c2 c3 c4∧VAt w B v c0 c1 c2 c3 c4
 | .nil,_,_,_,_,_,_,h=>by simp [VM.get] at h
 | .cons u x t,A,i,0,nm,v,h,hg=>by
   unfold MAt at h
   have:u=nm∧x=v:=by simpa [VM.get] using hg
   obtain ⟨rfl,rfl⟩:=this
   exact h.1
 | .cons u x t,A,i,j+1,nm,v,h,hg=>by
   unfold MAt at h
   have:=MAt.at h.2 (j:=j) (nm:=nm) (v:=v) hg
   rwa [show i+1+j=i+(j+1) by omega] at this
theorem cellsV:Tryz.prog.cellsOf 58=5:=by kernel_rfl
theorem cellsM:Tryz.prog.cellsOf 97=6:=by kernel_rfl
theorem cellsI:Tryz.prog.cellsOf 3=1:=by kernel_rfl
theorem cellsI64:Tryz.prog.cellsOf 2=1:=by kernel_rfl
theorem cellsS:Tryz.prog.cellsOf 9=1:=by kernel_rfl
theorem cellsLV:Tryz.prog.cellsOf 55=1:=by kernel_rfl
theorem cellsLM:Tryz.prog.cellsOf 56=1:=by kernel_rfl
theorem five_list {cs:List Value} (h:cs.length=5):∃ c0 c1 c2 c3 c4,cs=[c0,c1,c2,c3,c4]:=by
 match cs,h with
 | [a,b,c,d,e],_=>exact ⟨a,b,c,d,e,rfl⟩
theorem six_list {cs:List Value} (h:cs.length=6):∃ c0 c1 c2 c3 c4 c5,cs=[c0,c1,c2,c3,c4,c5]:=by
 match cs,h with
 | [a,b,c,d,e,f],_=>exact ⟨a,b,c,d,e,f,rfl⟩
theorem add_at {b o i:Nat} : (⟨b,o,none⟩:Addr).add i=⟨b,o+i,none⟩:=by unfold Addr.add;split<;>simp_all
open Go.RowKit
mutual
def sizeV:VT→Nat
 | .mk _ _ s l m=>1+s.size+sizeL l+sizeM m
def sizeL:VL→Nat
 | .nil=>0
 | .cons v t=>sizeV v+sizeL t
def sizeM:VM→Nat
 | .nil=>0
 | .cons nm v t=>nm.size+sizeV v+sizeM t
end
def preL:VL→Nat→Nat
 | .nil,_=>0
 | .cons _ _,0=>0
 | .cons v t,j+1=>sizeV v+preL t j
def preM:VM→Nat→Nat
 | .nil,_=>0
 | .cons _ _ _,0=>0
 | .cons nm v t,j+1=>nm.size+sizeV v+preM t j
theorem preL_zero (l:VL):preL l 0=0:=by cases l<;>rfl
theorem preM_zero (l:VM):preM l 0=0:=by cases l<;>rfl
theorem preL_next:∀ {l:VL} {j:Nat} {v:VT},l.get j=some v→preL l (j+1)=preL l j+sizeV v
 | .nil,_,_,h=>by simp [VL.get] at h
 | .cons u t,0,v,h=>by
   have:u=v:=by simpa [VL.get] using h
   subst this
   show sizeV u+preL t 0=0+sizeV u
   rw [preL_zero];omega
 | .cons u t,j+1,v,h=>by
   have:=preL_next (l:=t) (j:=j) (v:=v) h
   rw [preL,this,preL];omega
theorem preM_next:∀ {l:VM} {j:Nat} {nm:ByteArray} {v:VT},l.get j=some (nm,v)→preM l (j+1)=preM l j+nm.size+sizeV v
 | .nil,_,_,_,h=>by simp [VM.get] at h
 | .cons x u t,0,nm,v,h=>by
   have:x=nm∧u=v:=by simpa [VM.get] using h
   obtain ⟨rfl,rfl⟩:=this
   show x.size+sizeV u+preM t 0=0+x.size+sizeV u
   rw [preM_zero];omega
 | .cons x u t,j+1,nm,v,h=>by
   have:=preM_next (l:=t) (j:=j) (nm:=nm) (v:=v) h
   rw [preM,this,preM];omega
theorem preL_all:∀ l:VL,preL l l.len=sizeL l
 | .nil=>rfl
 | .cons v t=>by rw [VL.len,preL,preL_all t,sizeL]
theorem preM_all:∀ l:VM,preM l l.len=sizeM l
 | .nil=>rfl
 | .cons nm v t=>by rw [VM.len,preM,preM_all t,sizeM]
theorem sizeL_get:∀ {l:VL} {j:Nat} {v:VT},l.get j=some v→sizeV v≤sizeL l
 | .nil,_,_,h=>by simp [VL.get] at h
 | .cons u t,0,v,h=>by
   have:u=v:=by simpa [VL.get] using h
   subst this
   rw [sizeL];omega
 | .cons u t,j+1,v,h=>by
   have:=sizeL_get (l:=t) (j:=j) (v:=v) h
   rw [sizeL];omega
theorem sizeM_get:∀ {l:VM} {j:Nat} {nm:ByteArray} {v:VT},l.get j=some (nm,v)→nm.size+sizeV v≤sizeM l
 | .nil,_,_,_,h=>by simp [VM.get] at h
 | .cons x u t,0,nm,v,h=>by
   have:x=nm∧u=v:=by simpa [VM.get] using h
   obtain ⟨rfl,rfl⟩:=this
   rw [sizeM];omega
 | .cons x u t,j+1,nm,v,h=>by
   have:=sizeM_get (l:=t) (j:=j) (nm:=nm) (v:=v) h
   rw [sizeM];omega
def W64 (n:Nat):Int:=IntKind.i64.wrap (n:Int)
theorem W64_add (a b:Nat):IntKind.i64.wrap (W64 a+W64 b)=W64 (a+b):=by
 unfold W64
 simp only [IntKind.wrap_i64]
 omega
theorem W64_plus (a b:Nat):IntKind.i64.wrap (W64 a+(b:Int))=W64 (a+b):=by
 unfold W64
 simp only [IntKind.wrap_i64]
 omega
theorem W64_one (b:Nat):IntKind.i64.wrap (1+(b:Int))=W64 (1+b):=by
 unfold W64
 simp only [IntKind.wrap_i64]
 omega
def KV (w:World) (c2 c3 c4:Value) (w':World):Prop:=w'.cell? ⟨w.heap.size,2,none⟩=some c2∧w'.cell? ⟨w.heap.size,3,none⟩=some c3∧w'.cell? ⟨w.heap.size,4,none⟩=some c4∧Below w.heap.size w w'∧w.heap.size < w'.heap.size
theorem KV.next {w W W':World} {c2 c3 c4:Value} (h:KV w c2 c3 c4 W) (hb:Below W.heap.size W W'):KV w c2 c3 c4 W':=by
 obtain ⟨h2,h3,h4,hB,hs⟩:=h
 exact ⟨(hb.cell (p:=⟨_,_,none⟩) hs).trans h2,(hb.cell (p:=⟨_,_,none⟩) hs).trans h3,(hb.cell (p:=⟨_,_,none⟩) hs).trans h4,hB.trans (hb.mono hB.size),Nat.lt_of_lt_of_le hs hb.size⟩
theorem KV.start (w:World) (c0 c1 c2 c3 c4:Value) (t:TypeId):KV w c2 c3 c4 (w.alloc (.cells #[c0,c1,c2,c3,c4] t)):=by
 refine ⟨?_,?_,?_,(Below.refl _ _).alloc (Nat.le_refl _) _,by simp⟩<;>(simp only [World.cell?];rw [show (w.alloc (.cells #[c0,c1,c2,c3,c4] t)).heap[w.heap.size]? = some (.cells #[c0,c1,c2,c3,c4] t) by show (w.heap.push _)[w.heap.size]? = _;simp];rfl)
def KM (w:World) (c2 c3 c4:Value) (b O:Nat) (nm d0 d1 d2 d3 d4:Value) (w':World):Prop:=w'.cell? ⟨w.heap.size,4,none⟩=some c4∧w'.cell? ⟨b,O,none⟩=some nm∧Five w' b (O+1) d0 d1 d2 d3 d4∧KV w c2 c3 c4 w'
theorem KM.next {w W W':World} {c2 c3 c4:Value} {b O:Nat} {nm d0 d1 d2 d3 d4:Value} (h:KM w c2 c3 c4 b O nm d0 d1 d2 d3 d4 W) (hbw:b < w.heap.size) (hb:Below W.heap.size W W'):KM w c2 c3 c4 b O nm d0 d1 d2 d3 d4 W':=by
 obtain ⟨h4,hn,hF,hK⟩:=h
 have hl:b < W.heap.size:=Nat.lt_trans hbw hK.2.2.2.2
 have hK':=hK.next hb
 exact ⟨hK'.2.2.1,(hb.cell (p:=⟨b,_,none⟩) hl).trans hn,hF.below hb hl,hK'⟩
theorem KM.below {w W:World} {c2 c3 c4:Value} {b O:Nat} {nm d0 d1 d2 d3 d4:Value} (h:KM w c2 c3 c4 b O nm d0 d1 d2 d3 d4 W):Below w.heap.size w W:=h.2.2.2.2.2.2.1
theorem KM.written {w W:World} {c2 c3 c4:Value} {b O:Nat} {nm d0 d1 d2 d3 d4:Value} (h:KM w c2 c3 c4 b O nm d0 d1 d2 d3 d4 W):W.cell? ⟨w.heap.size,4,none⟩=some c4∧W.cell? ⟨b,O,none⟩=some nm∧W.cell? ⟨b,O+1,none⟩=some d0∧W.cell? ⟨b,O+1+1,none⟩=some d1∧W.cell? ⟨b,O+1+2,none⟩=some d2∧W.cell? ⟨b,O+1+3,none⟩=some d3∧W.cell? ⟨b,O+1+4,none⟩=some d4∧KM w c2 c3 c4 b O nm d0 d1 d2 d3 d4 W:=
 ⟨h.1,h.2.1,h.2.2.1.1,h.2.2.1.2.1,h.2.2.1.2.2.1,h.2.2.1.2.2.2.1,h.2.2.1.2.2.2.2,h⟩
theorem vret {a b:Nat} (h:b=a):Ending.returned (.int .i64 (W64 a))=.returned (.int .i64 (W64 b)):=by rw [h]
theorem W64_two (a b c:Nat):IntKind.i64.wrap (IntKind.i64.wrap (W64 a+(b:Int))+W64 c)=W64 (a+b+c):=by
 rw [W64_plus,W64_add]
theorem vsize_any:∀ (N:Nat) (v:VT),sizeV v≤N→∀ (c0 c1 c2 c3 c4:Value) (w:World) (B:Nat),B≤w.heap.size→VAt w B v c0 c1 c2 c3 c4 →
   Calls Tryz.prog 53 #[.agg #[c0,c1,c2,c3,c4]] w fun e w'=>e=.returned (.int .i64 (W64 (sizeV v)))∧Below w.heap.size w w':=by
 intro N
 induction N with
 | zero=>intro v h;cases v;rw [sizeV] at h;omega
 | succ N ih =>
   intro v hN c0 c1 c2 c3 c4 w B hB hv
   obtain ⟨k,n,s,l,m⟩:=v
   have hsz:sizeV (.mk k n s l m)=1+s.size+sizeL l+sizeM m:=by rw [sizeV]
   rw [hsz] at hN ⊢
   unfold VAt at hv
   obtain ⟨rfl,rfl,rfl,hs,⟨A,c,rfl,hl,hL⟩,A',c',rfl,hm,hM⟩:=hv
   have HL:=Hd hL
   have HM:=Hd hM
   have IH:=Hd ih
   have hw1:=W64_one s.size
   have HB0:=Hd hB
   clear hL hM ih hsz hB
   go_enter Tryz.func53,Tryz.ntmps53
   go_wp2_with fail
   go_loopg [3,4] l.len (fun g out i wx=>∃ q:Nat,q+g=l.len∧i=.int .i64 q∧out=.int .i64 (W64 (1+s.size+preL l q))∧KV w (.string s) (.slice A l.len c) (.slice A' m.len c') wx)
   case atStart=>exact ⟨0,by omega,rfl,by rw [preL_zero,Nat.add_zero],KV.start _ _ _ _ _ _ _⟩
   case round =>
    obtain ⟨q,hq,rfl,rfl,hK⟩:=hrel
    have K:=Hd hK
    obtain ⟨h2,h3,h4,hb,hlt0⟩:=hK
    have HBB:=Hd hb
    clear hb hw1
    cases gk with
    | zero =>
      obtain rfl:q=l.len:=by omega
      rw [preL_all]
      obtain ⟨T,hT⟩:∃ T:Nat,1+s.size+sizeL l=T:=⟨_,rfl⟩
      rw [hT] at hN ⊢
      have hT1:1≤T:=by omega
      have HT:=Hd hT
      clear hT hlt0
      go_wp2_with fail
      clear h2 h3 h4
      go_loopg [3,5] m.len (fun g out i wx=>∃ q:Nat,q+g=m.len∧i=.int .i64 q∧out=.int .i64 (W64 (T+preM m q))∧KV w (.string s) (.slice A l.len c) (.slice A' m.len c') wx)
      case atStart=>exact ⟨0,by omega,rfl,by rw [preM_zero,Nat.add_zero],K.out⟩
      case round =>
       obtain ⟨q,hq,rfl,rfl,hK⟩:=hrel
       have K':=Hd hK
       obtain ⟨h2,h3,h4,hb,hlt0⟩:=hK
       have HBC:=Hd hb
       clear hb h2 h3
       cases gk with
       | zero =>
         obtain rfl:q=m.len:=by omega
         rw [preM_all]
         go_wp2_with fail
         go_ret
         exact ⟨vret (by rw [HT.out]),HBC.out⟩
       | succ g =>
         have hqn:q < m.len:=by omega
         have hqn':(q:Int) < (m.len:Int):=by omega
         obtain ⟨⟨nm,v⟩,hv⟩:=VM.get_lt hqn
         have hvN:=sizeM_get hv
         obtain ⟨b,o,d0,d1,d2,d3,d4,rfl,hblt,hnm,hns,hF,hV⟩:=MAt.at HM.out hv
         rw [Nat.zero_add] at hF hnm
         have hbw:b < w.heap.size:=Nat.lt_of_lt_of_le hblt HB0.out
         have hE:KM w (.string s) (.slice A l.len c) (.slice (some ⟨b,o,none⟩) m.len c') b (o+q*6) (.string nm) d0 d1 d2 d3 d4 wr:=⟨h4,(HBC.out.cell (p:=⟨b,_,none⟩) hbw).trans hnm,hF.below HBC.out hbw,K'.out⟩
         have hE2:=hE
         obtain ⟨f4,f5,⟨f6,f7,f8,f9,f10⟩,_⟩:=hE2
         have HBW:=Hd hbw
         have C:=fun (wx:World) (hx:Below w.heap.size w wx)=>Hd (IH.out v (by omega) d0 d1 d2 d3 d4 wx B (Nat.le_trans HB0.out hx.size) (VAt.below (hx.mono HB0.out) _ _ _ _ _ _ hV))
         have hs2:=W64_two (T+preM m q) nm.size (sizeV v)
         have hs1:=W64_plus (T+preM m q) nm.size
         have hs0:=W64_add (T+preM m q+nm.size) (sizeV v)
         have hnx:=Hd (preM_next hv)
         clear hV hvN hv hbw hF hnm hblt h4
         go_wp2_with fail
         go_region_held3 (fun w'=>w'.cell? ⟨w.heap.size,4,none⟩=some (.slice (some ⟨b,o,none⟩) m.len c')∧w'.cell? ⟨b,o+q*6,none⟩=some (.string nm)∧w'.cell? ⟨b,o+q*6+1,none⟩=some d0∧w'.cell? ⟨b,o+q*6+1+1,none⟩=some d1∧w'.cell? ⟨b,o+q*6+1+2,none⟩=some d2∧w'.cell? ⟨b,o+q*6+1+3,none⟩=some d3∧w'.cell? ⟨b,o+q*6+1+4,none⟩=some d4∧KM w (.string s) (.slice A l.len c) (.slice (some ⟨b,o,none⟩) m.len c') b (o+q*6) (.string nm) d0 d1 d2 d3 d4 w')
          (first
           | exact KM.written (hE.next HBW.out (Below.drew (Below.refl _ _)))
           | exact KM.written ((hE.next HBW.out (Below.drew (Below.refl _ _))).next HBW.out (by assumption))
           | exact KM.written (hE.next HBW.out (by assumption))
           | exact KM.written (KM.next (by assumption) HBW.out (by assumption))
           | go_keep)
          ((first|(go_at_call 53;refine (C _ (by first|exact Below.drew (KM.below hE)|exact KM.below (by assumption))).out.mono ?_;rintro e w' ⟨rfl,hb⟩)))
         all_goals
          have HKM:KM w (.string s) (.slice A l.len c) (.slice (some ⟨b,o,none⟩) m.len c') b (o+q*6) (.string nm) d0 d1 d2 d3 d4 w':=And.right (And.right (And.right (And.right (And.right (And.right (And.right (by assumption)))))))
          have HKB:=Hd HKM.2.2.2
          clear HKM hE C hs2 hs1 hs0 f4 f5 f6 f7 f8 f9 f10
          go_wp2_with fail
          go_roundg g
          case measure=>omega
          case rel=>exact ⟨q+1,by omega,by go_num,by rw [hnx.out,← Nat.add_assoc,← Nat.add_assoc],HKB.out⟩
    | succ g =>
      have hqn:q < l.len:=by omega
      have hqn':(q:Int) < (l.len:Int):=by omega
      obtain ⟨v,hv⟩:=VL.get_lt hqn
      have hvN:=sizeL_get hv
      obtain ⟨b,o,d0,d1,d2,d3,d4,rfl,hblt,hF,hV⟩:=LAt.at (LAt.below (HBB.out.mono HB0.out) _ _ _ HL.out) hv
      rw [Nat.zero_add] at hF
      obtain ⟨g0,g1,g2,g3,g4⟩:=hF
      have C:=Hd (IH.out v (by omega) d0 d1 d2 d3 d4 wr B (Nat.le_trans HB0.out HBB.out.size) hV)
      have hsum:=W64_add (1+s.size+preL l q) (sizeV v)
      have hnx:=Hd (preL_next hv)
      clear hV hvN hv
      go_wp2_with fail
      refine C.out.mono ?_
      rintro e w2 ⟨rfl,hb2⟩
      have K2:=Hd (K.out.next hb2)
      clear hb2 h2 h3 h4 g0 g1 g2 g3 g4
      go_wp2_with fail
      go_roundg g
      case measure=>omega
      case rel=>exact ⟨q+1,by omega,by go_num,by rw [hnx.out,← Nat.add_assoc],K2.out⟩
theorem vaside {p:Prop} (h:p):Aside p:=h
theorem VL.ext:∀ {l l':VL},l.len=l'.len→(∀ j,j < l.len→l.get j=l'.get j)→l=l'
 | .nil,.nil,_,_=>rfl
 | .nil,.cons _ _,h,_=>by simp [VL.len] at h
 | .cons _ _,.nil,h,_=>by simp [VL.len] at h
 | .cons u t,.cons u' t',h,hg=>by
   have h0:u=u':=by simpa [VL.get] using hg 0 (by rw [VL.len];omega)
   have ht:t=t':=VL.ext (by simp only [VL.len] at h;omega) (fun j hj=>by simpa [VL.get] using hg (j+1) (by rw [VL.len];omega))
   rw [h0,ht]
theorem VM.ext:∀ {l l':VM},l.len=l'.len→(∀ j,j < l.len→l.get j=l'.get j)→l=l'
 | .nil,.nil,_,_=>rfl
 | .nil,.cons _ _ _,h,_=>by simp [VM.len] at h
 | .cons _ _ _,.nil,h,_=>by simp [VM.len] at h
 | .cons x u t,.cons x' u' t',h,hg=>by
   have h0:x=x'∧u=u':=by simpa [VM.get] using hg 0 (by rw [VM.len];omega)
   have ht:t=t':=VM.ext (by simp only [VM.len] at h;omega) (fun j hj=>by simpa [VM.get] using hg (j+1) (by rw [VM.len];omega))
   rw [h0.1,h0.2,ht]
def AgreeL (l l':VL) (q:Nat):Prop:=∀ j,j < q→l.get j=l'.get j
def AgreeM (l l':VM) (q:Nat):Prop:=∀ j,j < q→l.get j=l'.get j
theorem AgreeL.next {l l':VL} {q:Nat} {v:VT} (h:AgreeL l l' q) (h1:l.get q=some v) (h2:l'.get q=some v):AgreeL l l' (q+1):=fun j hj=>by
 rcases Nat.lt_or_ge j q with h'|h'
 · exact h j h'
 · obtain rfl:j=q:=by omega
   rw [h1,h2]
theorem AgreeM.next {l l':VM} {q:Nat} {v:ByteArray × VT} (h:AgreeM l l' q) (h1:l.get q=some v) (h2:l'.get q=some v):AgreeM l l' (q+1):=fun j hj=>by
 rcases Nat.lt_or_ge j q with h'|h'
 · exact h j h'
 · obtain rfl:j=q:=by omega
   rw [h1,h2]
mutual
def VP (w:World) (P:Nat→Prop):VT→Value→Value→Value→Value→Value→Prop
 | .mk k n s l m,c0,c1,c2,c3,c4=>c0=.int .i64 k∧c1=.int .i64 n∧c2=.string s∧s.size≤9223372036854775807∧(∃ A c,c3=.slice A l.len c∧l.len≤9223372036854775807∧LP w P l A 0)∧∃ A c,c4=.slice A m.len c∧m.len≤9223372036854775807∧MP w P m A 0
def LP (w:World) (P:Nat→Prop):VL→Option Addr→Nat→Prop
 | .nil,_,_=>True
 | .cons v t,A,j=>(∃ b o c0 c1 c2 c3 c4,A=some ⟨b,o,none⟩∧P b∧Five w b (o+j*5) c0 c1 c2 c3 c4∧VP w P v c0 c1 c2 c3 c4)∧LP w P t A (j+1)
def MP (w:World) (P:Nat→Prop):VM→Option Addr→Nat→Prop
 | .nil,_,_=>True
 | .cons nm v t,A,j=>(∃ b o c0 c1 c2 c3 c4,A=some ⟨b,o,none⟩∧P b∧w.cell? ⟨b,o+j*6,none⟩=some (.string nm)∧nm.size≤9223372036854775807∧Five w b (o+j*6+1) c0 c1 c2 c3 c4∧VP w P v c0 c1 c2 c3 c4)∧MP w P t A (j+1)
end
theorem Five.heap {w w':World} {b o:Nat} {c0 c1 c2 c3 c4:Value} (h:Five w b o c0 c1 c2 c3 c4) (hb:w'.heap[b]? = w.heap[b]?):Five w' b o c0 c1 c2 c3 c4:=
 ⟨(World.cell?_of_block (a:=⟨b,_,none⟩) hb).trans h.1,(World.cell?_of_block (a:=⟨b,_,none⟩) hb).trans h.2.1,(World.cell?_of_block (a:=⟨b,_,none⟩) hb).trans h.2.2.1,(World.cell?_of_block (a:=⟨b,_,none⟩) hb).trans h.2.2.2.1,(World.cell?_of_block (a:=⟨b,_,none⟩) hb).trans h.2.2.2.2⟩
mutual
theorem VP.keep {w w':World} {P P':Nat→Prop} (hP:∀ b,P b→P' b∧w'.heap[b]? = w.heap[b]?):∀ (v:VT) (c0 c1 c2 c3 c4:Value),VP w P v c0 c1 c2 c3 c4→VP w' P' v c0 c1 c2 c3 c4
 | .mk k n s l m,c0,c1,c2,c3,c4,h=>by
   unfold VP at h ⊢
   obtain ⟨h0,h1,h2,hs,⟨A,c,h3,g3,h4⟩,A',c',h5,g5,h6⟩:=h
   exact ⟨h0,h1,h2,hs,⟨A,c,h3,g3,LP.keep hP l A 0 h4⟩,A',c',h5,g5,MP.keep hP m A' 0 h6⟩
theorem LP.keep {w w':World} {P P':Nat→Prop} (hP:∀ b,P b→P' b∧w'.heap[b]? = w.heap[b]?):∀ (l:VL) (A:Option Addr) (j:Nat),LP w P l A j→LP w' P' l A j
 | .nil,_,_,_=>by unfold LP;trivial
 | .cons v t,A,j,h=>by
   unfold LP at h ⊢
   obtain ⟨⟨b,o,c0,c1,c2,c3,c4,hA,hlt,hf,hv⟩,ht⟩:=h
   exact ⟨⟨b,o,c0,c1,c2,c3,c4,hA,(hP b hlt).1,hf.heap (hP b hlt).2,VP.keep hP v _ _ _ _ _ hv⟩,LP.keep hP t A (j+1) ht⟩
theorem MP.keep {w w':World} {P P':Nat→Prop} (hP:∀ b,P b→P' b∧w'.heap[b]? = w.heap[b]?):∀ (l:VM) (A:Option Addr) (j:Nat),MP w P l A j→MP w' P' l A j
 | .nil,_,_,_=>by unfold MP;trivial
 | .cons nm v t,A,j,h=>by
   unfold MP at h ⊢
   obtain ⟨⟨b,o,c0,c1,c2,c3,c4,hA,hlt,hn,hz,hf,hv⟩,ht⟩:=h
   exact ⟨⟨b,o,c0,c1,c2,c3,c4,hA,(hP b hlt).1,(World.cell?_of_block (a:=⟨b,_,none⟩) (hP b hlt).2).trans hn,hz,hf.heap (hP b hlt).2,VP.keep hP v _ _ _ _ _ hv⟩,MP.keep hP t A (j+1) ht⟩
end
mutual
theorem VP.at {w:World} {B:Nat} {P:Nat→Prop} (hP:∀ b,P b→b < B):∀ (v:VT) (c0 c1 c2 c3 c4:Value),VP w P v c0 c1 c2 c3 c4→VAt w B v c0 c1 c2 c3 c4
 | .mk k n s l m,c0,c1,c2,c3,c4,h=>by
   unfold VP at h
   unfold VAt
   obtain ⟨h0,h1,h2,hs,⟨A,c,h3,g3,h4⟩,A',c',h5,g5,h6⟩:=h
   exact ⟨h0,h1,h2,hs,⟨A,c,h3,g3,LP.at hP l A 0 h4⟩,A',c',h5,g5,MP.at hP m A' 0 h6⟩
theorem LP.at {w:World} {B:Nat} {P:Nat→Prop} (hP:∀ b,P b→b < B):∀ (l:VL) (A:Option Addr) (j:Nat),LP w P l A j→LAt w B l A j
 | .nil,_,_,_=>by unfold LAt;trivial
 | .cons v t,A,j,h=>by
   unfold LP at h
   unfold LAt
   obtain ⟨⟨b,o,c0,c1,c2,c3,c4,hA,hlt,hf,hv⟩,ht⟩:=h
   exact ⟨⟨b,o,c0,c1,c2,c3,c4,hA,hP b hlt,hf,VP.at hP v _ _ _ _ _ hv⟩,LP.at hP t A (j+1) ht⟩
theorem MP.at {w:World} {B:Nat} {P:Nat→Prop} (hP:∀ b,P b→b < B):∀ (l:VM) (A:Option Addr) (j:Nat),MP w P l A j→MAt w B l A j
 | .nil,_,_,_=>by unfold MAt;trivial
 | .cons nm v t,A,j,h=>by
   unfold MP at h
   unfold MAt
   obtain ⟨⟨b,o,c0,c1,c2,c3,c4,hA,hlt,hn,hz,hf,hv⟩,ht⟩:=h
   exact ⟨⟨b,o,c0,c1,c2,c3,c4,hA,hP b hlt,hn,hz,hf,VP.at hP v _ _ _ _ _ hv⟩,MP.at hP t A (j+1) ht⟩
end
def ValsL (w:World) (P:Nat→Prop):VL→List Value→Prop
 | .nil,xs=>xs=[]
 | .cons v t,xs=>∃ c0 c1 c2 c3 c4 ys,xs=c0 :: c1 :: c2 :: c3 :: c4 :: ys∧VP w P v c0 c1 c2 c3 c4∧ValsL w P t ys
def ValsM (w:World) (P:Nat→Prop):VM→List Value→Prop
 | .nil,xs=>xs=[]
 | .cons nm v t,xs=>∃ c0 c1 c2 c3 c4 ys,xs=.string nm :: c0 :: c1 :: c2 :: c3 :: c4 :: ys∧nm.size≤9223372036854775807∧VP w P v c0 c1 c2 c3 c4∧ValsM w P t ys
def VL.snoc:VL→VT→VL
 | .nil,v=>.cons v .nil
 | .cons u t,v=>.cons u (t.snoc v)
def VM.snoc:VM→ByteArray→VT→VM
 | .nil,nm,v=>.cons nm v .nil
 | .cons x u t,nm,v=>.cons x u (t.snoc nm v)
def VL.take:VL→Nat→VL
 | _,0=>.nil
 | .nil,_+1=>.nil
 | .cons v t,j+1=>.cons v (t.take j)
def VM.take:VM→Nat→VM
 | _,0=>.nil
 | .nil,_+1=>.nil
 | .cons nm v t,j+1=>.cons nm v (t.take j)
theorem ValsL.keep {w w':World} {P P':Nat→Prop} (hP:∀ b,P b→P' b∧w'.heap[b]? = w.heap[b]?):∀ {l:VL} {xs:List Value},ValsL w P l xs→ValsL w' P' l xs
 | .nil,_,h=>h
 | .cons v t,xs,h=>by
   obtain ⟨c0,c1,c2,c3,c4,ys,e,hv,ht⟩:=h
   exact ⟨c0,c1,c2,c3,c4,ys,e,VP.keep hP _ _ _ _ _ _ hv,ValsL.keep hP ht⟩
theorem ValsM.keep {w w':World} {P P':Nat→Prop} (hP:∀ b,P b→P' b∧w'.heap[b]? = w.heap[b]?):∀ {l:VM} {xs:List Value},ValsM w P l xs→ValsM w' P' l xs
 | .nil,_,h=>h
 | .cons nm v t,xs,h=>by
   obtain ⟨c0,c1,c2,c3,c4,ys,e,hn,hv,ht⟩:=h
   exact ⟨c0,c1,c2,c3,c4,ys,e,hn,VP.keep hP _ _ _ _ _ _ hv,ValsM.keep hP ht⟩
theorem info_val:(Tryz.prog.info? 58).map (fun i=>(i.zero,i.size,i.bytes))=some (some (.agg #[.int .i64 0,.int .i64 0,.string ⟨#[]⟩,.slice none 0 0,.slice none 0 0]),5,80):=by kernel_rfl
theorem sizeV_pos:∀ v:VT,1≤sizeV v
 | .mk _ _ _ _ _=>by rw [sizeV];omega
theorem lenM_le:∀ l:VM,l.len≤sizeM l
 | .nil=>Nat.le_refl _
 | .cons nm v t=>by rw [VM.len,sizeM];have:=lenM_le t;have:=sizeV_pos v;omega
mutual
def SlimV:VT→Prop
 | .mk _ _ _ l m=>l.len*80≤140737488355328∧m.len*96≤140737488355328∧SlimL l∧SlimM m
def SlimL:VL→Prop
 | .nil=>True
 | .cons v t=>SlimV v∧SlimL t
def SlimM:VM→Prop
 | .nil=>True
 | .cons _ v t=>SlimV v∧SlimM t
end
theorem SlimL.get:∀ {l:VL} {j:Nat} {v:VT},SlimL l→l.get j=some v→SlimV v
 | .nil,_,_,_,h=>by simp [VL.get] at h
 | .cons u t,0,v,hs,h=>by
   have:u=v:=by simpa [VL.get] using h
   subst this
   unfold SlimL at hs
   exact hs.1
 | .cons u t,j+1,v,hs,h=>by
   unfold SlimL at hs
   exact SlimL.get (l:=t) (j:=j) hs.2 h
theorem SlimM.get:∀ {l:VM} {j:Nat} {nm:ByteArray} {v:VT},SlimM l→l.get j=some (nm,v)→SlimV v
 | .nil,_,_,_,_,h=>by simp [VM.get] at h
 | .cons x u t,0,nm,v,hs,h=>by
   have:x=nm∧u=v:=by simpa [VM.get] using h
   obtain ⟨_,rfl⟩:=this
   unfold SlimM at hs
   exact hs.1
 | .cons x u t,j+1,nm,v,hs,h=>by
   unfold SlimM at hs
   exact SlimM.get (l:=t) (j:=j) hs.2 h
def RT (base:Nat) (W:World) (V:Value) (q:Nat) (l:VL):Prop:=∃ xs P,W.ownsRow base 58 5 V q xs∧ValsL W P l xs∧∀ b,P b→base≤b∧b < W.heap.size∧V.ownBlock ≠ some b
theorem own_low {B:Nat} {e:TypeId} {k:Nat} {v:Value} {n:Nat} {xs:List Value} {w w':World} (h:w.ownsRow B e k v n xs) (hb:Below w.heap.size w w'):w'.ownsRow B e k v n xs:=
 h.kept (row:=none) ⟨hb.os,hb.tape,hb.output,hb.size,fun j hj _=>hb.block j hj⟩ (Classical.em _)
theorem shape_own {w:World} {base sz:Nat} {e:TypeId} {v:Value} {n:Nat} {xs:List Value} (h:w.ownsRow base e sz v n xs):∃ A cap,v=.slice A n cap:=by
 rcases h.2 with ⟨hv,hn⟩|⟨g,cap,cur,hv,_⟩
 · exact ⟨none,0,by rw [hv,hn]⟩
 · exact ⟨_,_,hv⟩
mutual
inductive Tr where
 | one (v:Value)
 | row (l:TrL)
inductive TrS where
 | nil
 | cons (x:Tr) (t:TrS)
inductive TrL where
 | nil
 | cons (s:TrS) (t:TrL)
end
def TrS.len:TrS→Nat
 | .nil=>0
 | .cons _ t=>t.len+1
def TrL.len:TrL→Nat
 | .nil=>0
 | .cons _ t=>t.len+1
def TrL.snoc:TrL→TrS→TrL
 | .nil,s=>.cons s .nil
 | .cons u t,s=>.cons u (t.snoc s)
def okV:Value→Prop
 | .string s=>s.size≤9223372036854775807
 | _=>True
mutual
def TP (w:World) (P:Nat→Prop):Tr→Value→Prop
 | .one v,c=>c=v∧okV v
 | .row l,c=>∃ A k,c=.slice A l.len k∧l.len≤9223372036854775807∧RowT w P l A
def TS (w:World) (P:Nat→Prop):TrS→List Value→Prop
 | .nil,cs=>cs=[]
 | .cons x t,cs=>∃ c ys,cs=c :: ys∧TP w P x c∧TS w P t ys
def RowT (w:World) (P:Nat→Prop):TrL→Option Addr→Prop
 | .nil,_=>True
 | .cons s t,A=>∃ b o cs,A=some ⟨b,o,none⟩∧P b∧(∀ j u,cs[j]? = some u→w.cell? ⟨b,o+j,none⟩=some u)∧TS w P s cs∧RowT w P t (some ⟨b,o+s.len,none⟩)
end
mutual
theorem TP.keep {w w':World} {P P':Nat→Prop} (hP:∀ b,P b→P' b∧w'.heap[b]? = w.heap[b]?):∀ (x:Tr) (c:Value),TP w P x c→TP w' P' x c
 | .one v,c,h=>by unfold TP at h ⊢;exact h
 | .row l,c,h=>by
   unfold TP at h ⊢
   obtain ⟨A,k,h0,h1,h2⟩:=h
   exact ⟨A,k,h0,h1,RowT.keep hP l A h2⟩
theorem TS.keep {w w':World} {P P':Nat→Prop} (hP:∀ b,P b→P' b∧w'.heap[b]? = w.heap[b]?):∀ (s:TrS) (cs:List Value),TS w P s cs→TS w' P' s cs
 | .nil,cs,h=>by unfold TS at h ⊢;exact h
 | .cons x t,cs,h=>by
   unfold TS at h ⊢
   obtain ⟨c,ys,e,h1,h2⟩:=h
   exact ⟨c,ys,e,TP.keep hP x c h1,TS.keep hP t ys h2⟩
theorem RowT.keep {w w':World} {P P':Nat→Prop} (hP:∀ b,P b→P' b∧w'.heap[b]? = w.heap[b]?):∀ (l:TrL) (A:Option Addr),RowT w P l A→RowT w' P' l A
 | .nil,_,_=>by unfold RowT;trivial
 | .cons s t,A,h=>by
   unfold RowT at h ⊢
   obtain ⟨b,o,cs,e,hb,hc,h1,h2⟩:=h
   exact ⟨b,o,cs,e,(hP b hb).1,fun j u hu=>(World.cell?_of_block (a:=⟨b,o+j,none⟩) (hP b hb).2).trans (hc j u hu),TS.keep hP s cs h1,RowT.keep hP t _ h2⟩
end
theorem TS.len {w:World} {P:Nat→Prop} : ∀ {s:TrS} {cs:List Value},TS w P s cs→cs.length=s.len
 | .nil,cs,h=>by unfold TS at h;subst h;rfl
 | .cons x t,cs,h=>by
   unfold TS at h
   obtain ⟨c,ys,rfl,_,h2⟩:=h
   rw [List.length_cons,TS.len h2,TrS.len]
def TLV (w:World) (P:Nat→Prop):TrL→List Value→Prop
 | .nil,xs=>xs=[]
 | .cons s t,xs=>∃ cs ys,xs=cs++ys∧TS w P s cs∧TLV w P t ys
theorem TLV.keep {w w':World} {P P':Nat→Prop} (hP:∀ b,P b→P' b∧w'.heap[b]? = w.heap[b]?):∀ {l:TrL} {xs:List Value},TLV w P l xs→TLV w' P' l xs
 | .nil,_,h=>h
 | .cons s t,xs,h=>by
   obtain ⟨cs,ys,e,h1,h2⟩:=h
   exact ⟨cs,ys,e,TS.keep hP s cs h1,TLV.keep hP h2⟩
theorem TLV.snoc {w:World} {P:Nat→Prop} {s:TrS} {cs:List Value} (hd:TS w P s cs):∀ {l:TrL} {xs:List Value},TLV w P l xs→TLV w P (l.snoc s) (xs++cs)
 | .nil,xs,h=>by
   have:xs=[]:=h
   subst this
   exact ⟨cs,[],by simp,hd,rfl⟩
 | .cons u t,xs,h=>by
   obtain ⟨c,ys,rfl,hv,ht⟩:=h
   exact ⟨c,ys++cs,by simp,hv,TLV.snoc hd ht⟩
theorem RowT.of_cells {w:World} {P:Nat→Prop} {g:Nat} (hg:P g):∀ {l:TrL} {xs:List Value} (i:Nat),TLV w P l xs→(∀ j u,xs[j]? = some u→w.cell? ⟨g,i+j,none⟩=some u)→RowT w P l (some ⟨g,i,none⟩)
 | .nil,_,_,_,_=>by unfold RowT;trivial
 | .cons s t,xs,i,h,hc=>by
   obtain ⟨cs,ys,rfl,hv,ht⟩:=h
   unfold RowT
   refine ⟨g,i,cs,rfl,hg,fun j u hj=>hc j u ?_,hv,RowT.of_cells hg (i+s.len) ht (fun j u hj=>?_)⟩
   · rw [List.getElem?_append_left (List.getElem?_eq_some_iff.1 hj).1];exact hj
   · have:=hc (s.len+j) u (by rw [← hv.len,List.getElem?_append_right (by omega)];simpa using hj)
     rwa [← Nat.add_assoc] at this
theorem row_tl {w:World} {base n:Nat} {ty:TypeId} {V:Value} {P:Nat→Prop} {l:TrL} {xs:List Value} (h:w.ownsRow base ty n V l.len xs) (hv:TLV w P l xs) :
   ∃ A c,V=.slice A l.len c∧RowT w (fun b=>P b∨V.ownBlock=some b) l A:=by
 rcases h.2 with ⟨hV,hn⟩|⟨g,c,cur,hV,_⟩
 · refine ⟨none,0,by rw [hV,hn],?_⟩
   cases l with
   | nil=>unfold RowT;trivial
   | cons v t=>simp [TrL.len] at hn
 · have hg:V.ownBlock=some g:=by rw [hV];rfl
   refine ⟨some ⟨g,0,none⟩,c,hV,RowT.of_cells (.inr hg) 0 (hv.keep (fun b hb=>⟨.inl hb,rfl⟩)) (fun j u hj=>?_)⟩
   have:=h.cells hg j u hj
   rwa [add_at] at this
mutual
def encV:VT→TrS
 | .mk k n s l m=>.cons (.one (.int .i64 k)) (.cons (.one (.int .i64 n)) (.cons (.one (.string s)) (.cons (.row (encL l)) (.cons (.row (encM m)) .nil))))
def encL:VL→TrL
 | .nil=>.nil
 | .cons v t=>.cons (encV v) (encL t)
def encM:VM→TrL
 | .nil=>.nil
 | .cons nm v t=>.cons (.cons (.one (.string nm)) (encV v)) (encM t)
end
theorem encV_len:∀ v:VT,(encV v).len=5
 | .mk _ _ _ _ _=>by rw [encV];rfl
theorem encL_len:∀ l:VL,(encL l).len=l.len
 | .nil=>by rw [encL];rfl
 | .cons v t=>by rw [encL,TrL.len,VL.len,encL_len t]
theorem encM_len:∀ l:VM,(encM l).len=l.len
 | .nil=>by rw [encM];rfl
 | .cons nm v t=>by rw [encM,TrL.len,VM.len,encM_len t]
def shiftA:Option Addr→Nat→Option Addr
 | none,_=>none
 | some ⟨b,o,x⟩,n=>some ⟨b,o+n,x⟩
theorem shiftA_zero (A:Option Addr):shiftA A 0=A:=by
 cases A with
 | none=>rfl
 | some a=>rfl
mutual
theorem vp_ts {w:World} {P:Nat→Prop} : ∀ (v:VT) (c0 c1 c2 c3 c4:Value),VP w P v c0 c1 c2 c3 c4→TS w P (encV v) [c0,c1,c2,c3,c4]
 | .mk k n s l m,c0,c1,c2,c3,c4,h=>by
   unfold VP at h
   obtain ⟨h0,h1,h2,hs,⟨A,c,h3,g3,h4⟩,A',c',h5,g5,h6⟩:=h
   rw [encV]
   simp only [TS,TP]
   refine ⟨_,_,rfl,⟨h0,trivial⟩,_,_,rfl,⟨h1,trivial⟩,_,_,rfl,⟨h2,hs⟩,_,_,rfl,⟨A,c,by rw [encL_len];exact h3,by rw [encL_len];exact g3,?_⟩,_,_,rfl,⟨A',c',by rw [encM_len];exact h5,by rw [encM_len];exact g5,?_⟩,rfl⟩
   · have:=lp_tl l A 0 h4;rwa [Nat.zero_mul,shiftA_zero] at this
   · have:=mp_tl m A' 0 h6;rwa [Nat.zero_mul,shiftA_zero] at this
theorem lp_tl {w:World} {P:Nat→Prop} : ∀ (l:VL) (A:Option Addr) (j:Nat),LP w P l A j→RowT w P (encL l) (shiftA A (j*5))
 | .nil,_,_,_=>by rw [encL];unfold RowT;trivial
 | .cons v t,A,j,h=>by
   unfold LP at h
   obtain ⟨⟨b,o,c0,c1,c2,c3,c4,rfl,hb,hf,hv⟩,ht⟩:=h
   rw [encL]
   unfold RowT
   refine ⟨b,o+j*5,[c0,c1,c2,c3,c4],rfl,hb,fun i u hi=>?_,vp_ts v _ _ _ _ _ hv,?_⟩
   · match i,hi with
     | 0,hi=>cases hi;exact hf.1
     | 1,hi=>cases hi;exact hf.2.1
     | 2,hi=>cases hi;exact hf.2.2.1
     | 3,hi=>cases hi;exact hf.2.2.2.1
     | 4,hi=>cases hi;exact hf.2.2.2.2
   · have:=lp_tl t _ (j+1) ht
     rw [encV_len]
     rwa [show o+j*5+5=o+(j+1)*5 by omega]
theorem mp_tl {w:World} {P:Nat→Prop} : ∀ (l:VM) (A:Option Addr) (j:Nat),MP w P l A j→RowT w P (encM l) (shiftA A (j*6))
 | .nil,_,_,_=>by rw [encM];unfold RowT;trivial
 | .cons nm v t,A,j,h=>by
   unfold MP at h
   obtain ⟨⟨b,o,c0,c1,c2,c3,c4,rfl,hb,hn,hz,hf,hv⟩,ht⟩:=h
   rw [encM]
   unfold RowT
   refine ⟨b,o+j*6,[.string nm,c0,c1,c2,c3,c4],rfl,hb,fun i u hi=>?_,?_,?_⟩
   · match i,hi with
     | 0,hi=>cases hi;exact hn
     | 1,hi=>cases hi;exact hf.1
     | 2,hi=>cases hi;exact hf.2.1
     | 3,hi=>cases hi;exact hf.2.2.1
     | 4,hi=>cases hi;exact hf.2.2.2.1
     | 5,hi=>cases hi;exact hf.2.2.2.2
   · rw [TS]
     exact ⟨_,_,rfl,by unfold TP;exact ⟨rfl,hz⟩,vp_ts v _ _ _ _ _ hv⟩
   · have:=mp_tl t _ (j+1) ht
     rw [TrS.len,encV_len]
     rwa [show o+j*6+(5+1)=o+(j+1)*6 by omega]
end
mutual
theorem ts_vp {w:World} {P:Nat→Prop} : ∀ (v:VT) (cs:List Value),TS w P (encV v) cs→∃ c0 c1 c2 c3 c4,cs=[c0,c1,c2,c3,c4]∧VP w P v c0 c1 c2 c3 c4
 | .mk k n s l m,cs,h=>by
   rw [encV] at h
   simp only [TS,TP] at h
   obtain ⟨c0,_,rfl,⟨h0,_⟩,c1,_,rfl,⟨h1,_⟩,c2,_,rfl,⟨h2,hs⟩,c3,_,rfl,⟨A,c,h3,g3,h4⟩,c4,_,rfl,⟨A',c',h5,g5,h6⟩,rfl⟩:=h
   rw [encL_len] at h3 g3
   rw [encM_len] at h5 g5
   refine ⟨c0,c1,c2,c3,c4,rfl,?_⟩
   unfold VP
   exact ⟨h0,h1,h2,hs,⟨A,c,h3,g3,tl_lp l A 0 (by rw [Nat.zero_mul,shiftA_zero];exact h4)⟩,A',c',h5,g5,tl_mp m A' 0 (by rw [Nat.zero_mul,shiftA_zero];exact h6)⟩
theorem tl_lp {w:World} {P:Nat→Prop} : ∀ (l:VL) (A:Option Addr) (j:Nat),RowT w P (encL l) (shiftA A (j*5))→LP w P l A j
 | .nil,_,_,_=>by unfold LP;trivial
 | .cons v t,A,j,h=>by
   rw [encL] at h
   unfold RowT at h
   obtain ⟨b,o,cs,e,hb,hc,h1,h2⟩:=h
   obtain ⟨c0,c1,c2,c3,c4,rfl,hv⟩:=ts_vp v cs h1
   cases A with
   | none=>cases e
   | some a =>
     obtain ⟨b',o',x⟩:=a
     have e:=Option.some.inj e
     injection e with e1 e2 e3
     subst e1 e2 e3
     unfold LP
     refine ⟨⟨b',o',c0,c1,c2,c3,c4,rfl,hb,⟨hc 0 _ rfl,hc 1 _ rfl,hc 2 _ rfl,hc 3 _ rfl,hc 4 _ rfl⟩,hv⟩,tl_lp t _ (j+1) ?_⟩
     rw [encV_len] at h2
     rwa [show shiftA (some (⟨b',o',none⟩:Addr)) ((j+1)*5)=some ⟨b',o'+j*5+5,none⟩ by rw [shiftA];congr 2;omega]
theorem tl_mp {w:World} {P:Nat→Prop} : ∀ (l:VM) (A:Option Addr) (j:Nat),RowT w P (encM l) (shiftA A (j*6))→MP w P l A j
 | .nil,_,_,_=>by unfold MP;trivial
 | .cons nm v t,A,j,h=>by
   rw [encM] at h
   unfold RowT at h
   obtain ⟨b,o,cs,e,hb,hc,h1,h2⟩:=h
   rw [TS] at h1
   obtain ⟨c,ys,rfl,h0,h1⟩:=h1
   unfold TP at h0
   obtain ⟨rfl,hz⟩:=h0
   obtain ⟨c0,c1,c2,c3,c4,rfl,hv⟩:=ts_vp v ys h1
   cases A with
   | none=>cases e
   | some a =>
     obtain ⟨b',o',x⟩:=a
     have e:=Option.some.inj e
     injection e with e1 e2 e3
     subst e1 e2 e3
     unfold MP
     refine ⟨⟨b',o',c0,c1,c2,c3,c4,rfl,hb,hc 0 _ rfl,hz,⟨hc 1 _ rfl,hc 2 _ rfl,hc 3 _ rfl,hc 4 _ rfl,hc 5 _ rfl⟩,hv⟩,tl_mp t _ (j+1) ?_⟩
     rw [TrS.len,encV_len] at h2
     rwa [show shiftA (some (⟨b',o',none⟩:Addr)) ((j+1)*6)=some ⟨b',o'+j*6+(5+1),none⟩ by rw [shiftA];congr 2;omega]
end
abbrev DirT:=ByteArray × VM
mutual
inductive SelT where
 | mk (kind:Int) (alias name:ByteArray) (args:VM) (dirs:List DirT) (on:ByteArray) (sels:SelL)
inductive SelL where
 | nil
 | cons (x:SelT) (t:SelL)
end
def SelL.len:SelL→Nat
 | .nil=>0
 | .cons _ t=>t.len+1
def SelL.snoc:SelL→SelT→SelL
 | .nil,x=>.cons x .nil
 | .cons u t,x=>.cons u (t.snoc x)
structure VarT where
 name:ByteArray
 tn:ByteArray
 tl:Int
 tm:Int
 has:Bool
 v:VT
def rowOf {α:Type} (f:α→TrS):List α→TrL
 | []=>.nil
 | a :: t=>.cons (f a) (rowOf f t)
theorem rowOf_len {α:Type} (f:α→TrS):∀ l:List α,(rowOf f l).len=l.length
 | []=>rfl
 | a :: t=>by rw [rowOf,TrL.len,rowOf_len f t];rfl
theorem rowOf_snoc {α:Type} (f:α→TrS):∀ (l:List α) (a:α),rowOf f (l++[a])=(rowOf f l).snoc (f a)
 | [],a=>rfl
 | b :: t,a=>by rw [List.cons_append,rowOf,rowOf,TrL.snoc,rowOf_snoc f t]
def encD (d:DirT):TrS:=.cons (.one (.string d.1)) (.cons (.row (encM d.2)) .nil)
def encVar (x:VarT):TrS:=.cons (.one (.string x.name)) (.cons (.one (.string x.tn)) (.cons (.one (.int .i64 (x.tl:Int))) (.cons (.one (.int .i64 (x.tm:Int))) (.cons (.one (.bool x.has)) (encV x.v)))))
end Go.Proofs.YtaekdfcpbepepaaGreatDoor
