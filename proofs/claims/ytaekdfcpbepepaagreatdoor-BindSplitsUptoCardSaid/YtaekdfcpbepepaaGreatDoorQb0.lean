/- Values as plain trees, how they lie in memory, and a value that comes in, opened. -/
import Derived.Test.YtaekdfcpbepepaaGreatDoorRows
import Derived.WalkKit
import Derived.ProofKit
import Derived.Carry
import Derived.Deep.Strs
import Derived.Deep.Slices
import Derived.Lib.Hide
import Derived.Deep.LoopGhost
import Derived.Deep.WholeRow
import Derived.Deep.RegionHeld3
import Derived.Shelf.Abstract
set_option maxRecDepth 100000
set_option maxHeartbeats 4000000
namespace Go.Proofs.YtaekdfcpbepepaaGreatDoor
theorem Hd {p:Prop} (h:p):Go.RowKit.Hid p:=Go.Lib.hid h
theorem stT {a:List Value} {i:Nat} {x:Value} : a.toArray.setIfInBounds i x=(a.set i x).toArray:=by simp
theorem stZ {x y:Value} {a:List Value} : (x :: a).set 0 y=y :: a:=rfl
theorem stS {x y:Value} {a:List Value} {i:Nat} : (x :: a).set (i+1) y=x :: a.set i y:=rfl
end Go.Proofs.YtaekdfcpbepepaaGreatDoor
namespace Go.Proofs.YtaekdfcpbepepaaGreatDoor
open Go.ChangeShapes Go.WideShapes Go.ChangeAt Go.RowKit
mutual
inductive VT where
 | mk (k n:Int) (s:ByteArray) (l:VL) (m:VM)
inductive VL where
 | nil
 | cons (v:VT) (t:VL)
inductive VM where
 | nil
 | cons (name:ByteArray) (v:VT) (t:VM)
end
def VL.len:VL→Nat
 | .nil=>0
 | .cons _ t=>t.len+1
def VM.len:VM→Nat
 | .nil=>0
 | .cons _ _ t=>t.len+1
def VL.get:VL→Nat→Option VT
 | .nil,_=>none
 | .cons v _,0=>some v
 | .cons _ t,j+1=>t.get j
def VM.get:VM→Nat→Option (ByteArray × VT)
 | .nil,_=>none
 | .cons nm v _,0=>some (nm,v)
 | .cons _ _ t,j+1=>t.get j
theorem VL.get_lt:∀ {l:VL} {j:Nat},j < l.len→∃ v,l.get j=some v
 | .nil,_,h=>by simp [VL.len] at h
 | .cons v _,0,_=>⟨v,rfl⟩
 | .cons _ t,j+1,h=>VL.get_lt (l:=t) (by simp [VL.len] at h;omega)
theorem VM.get_lt:∀ {l:VM} {j:Nat},j < l.len→∃ v,l.get j=some v
 | .nil,_,h=>by simp [VM.len] at h
 | .cons nm v _,0,_=>⟨(nm,v),rfl⟩
 | .cons _ _ t,j+1,h=>VM.get_lt (l:=t) (by simp [VM.len] at h;omega)
def Five (w:World) (b o:Nat) (c0 c1 c2 c3 c4:Value):Prop:=w.cell? ⟨b,o,none⟩=some c0∧w.cell? ⟨b,o+1,none⟩=some c1∧w.cell? ⟨b,o+2,none⟩=some c2∧w.cell? ⟨b,o+3,none⟩=some c3∧w.cell? ⟨b,o+4,none⟩=some c4
theorem Five.below {w w':World} {B b o:Nat} {c0 c1 c2 c3 c4:Value} (h:Five w b o c0 c1 c2 c3 c4) (hb:Below B w w') (hlt:b < B):Five w' b o c0 c1 c2 c3 c4:=
 ⟨(hb.cell (p:=⟨b,_,none⟩) hlt).trans h.1,(hb.cell (p:=⟨b,_,none⟩) hlt).trans h.2.1,(hb.cell (p:=⟨b,_,none⟩) hlt).trans h.2.2.1,(hb.cell (p:=⟨b,_,none⟩) hlt).trans h.2.2.2.1,(hb.cell (p:=⟨b,_,none⟩) hlt).trans h.2.2.2.2⟩
mutual
def VAt (w:World) (B:Nat):VT→Value→Value→Value→Value→Value→Prop
 | .mk k n s l m,c0,c1,c2,c3,c4=>c0=.int .i64 k∧c1=.int .i64 n∧c2=.string s∧s.size≤9223372036854775807∧(∃ A c,c3=.slice A l.len c∧l.len≤9223372036854775807∧LAt w B l A 0)∧∃ A c,c4=.slice A m.len c∧m.len≤9223372036854775807∧MAt w B m A 0
def LAt (w:World) (B:Nat):VL→Option Addr→Nat→Prop
 | .nil,_,_=>True
 | .cons v t,A,j=>(∃ b o c0 c1 c2 c3 c4,A=some ⟨b,o,none⟩∧b < B∧Five w b (o+j*5) c0 c1 c2 c3 c4∧VAt w B v c0 c1 c2 c3 c4)∧LAt w B t A (j+1)
def MAt (w:World) (B:Nat):VM→Option Addr→Nat→Prop
 | .nil,_,_=>True
 | .cons nm v t,A,j=>(∃ b o c0 c1 c2 c3 c4,A=some ⟨b,o,none⟩∧b < B∧w.cell? ⟨b,o+j*6,none⟩=some (.string nm)∧nm.size≤9223372036854775807∧Five w b (o+j*6+1) c0 c1 c2 c3 c4∧VAt w B v c0 c1 c2 c3 c4)∧MAt w B t A (j+1)
end
mutual
theorem VAt.below {w w':World} {B:Nat} (hb:Below B w w'):∀ (v:VT) (c0 c1 c2 c3 c4:Value),VAt w B v c0 c1 c2 c3 c4→VAt w' B v c0 c1 c2 c3 c4
 | .mk k n s l m,c0,c1,c2,c3,c4,h=>by
   unfold VAt at h ⊢
   obtain ⟨h0,h1,h2,hs,⟨A,c,h3,g3,h4⟩,A',c',h5,g5,h6⟩:=h
   exact ⟨h0,h1,h2,hs,⟨A,c,h3,g3,LAt.below hb l A 0 h4⟩,A',c',h5,g5,MAt.below hb m A' 0 h6⟩
theorem LAt.below {w w':World} {B:Nat} (hb:Below B w w'):∀ (l:VL) (A:Option Addr) (j:Nat),LAt w B l A j→LAt w' B l A j
 | .nil,_,_,_=>by unfold LAt;trivial
 | .cons v t,A,j,h=>by
   unfold LAt at h ⊢
   obtain ⟨⟨b,o,c0,c1,c2,c3,c4,hA,hlt,hf,hv⟩,ht⟩:=h
   exact ⟨⟨b,o,c0,c1,c2,c3,c4,hA,hlt,hf.below hb hlt,VAt.below hb v _ _ _ _ _ hv⟩,LAt.below hb t A (j+1) ht⟩
theorem MAt.below {w w':World} {B:Nat} (hb:Below B w w'):∀ (l:VM) (A:Option Addr) (j:Nat),MAt w B l A j→MAt w' B l A j
 | .nil,_,_,_=>by unfold MAt;trivial
 | .cons nm v t,A,j,h=>by
   unfold MAt at h ⊢
   obtain ⟨⟨b,o,c0,c1,c2,c3,c4,hA,hlt,hn,hz,hf,hv⟩,ht⟩:=h
   exact ⟨⟨b,o,c0,c1,c2,c3,c4,hA,hlt,(hb.cell (p:=⟨b,_,none⟩) hlt).trans hn,hz,hf.below hb hlt,VAt.below hb v _ _ _ _ _ hv⟩,MAt.below hb t A (j+1) ht⟩
end
theorem LAt.at {w:World} {B:Nat} : ∀ {l:VL} {A:Option Addr} {i j:Nat} {v:VT},LAt w B l A i→l.get j=some v→∃ b o c0 c1 c2 c3 c4,A=some ⟨b,o,none⟩∧b < B∧Five w b (o+(i+j)*5) c0 c1 c2 c3 c4∧VAt w B v c0 c1 c2 c3 c4
 | .nil,_,_,_,_,_,h=>by simp [VL.get] at h
 | .cons u t,A,i,0,v,h,hg=>by
   unfold LAt at h
   have:u=v:=by simpa [VL.get] using hg
   subst this
   exact h.1
 | .cons u t,A,i,j+1,v,h,hg=>by
   unfold LAt at h
   have:=LAt.at h.2 (j:=j) (v:=v) hg
   rwa [show i+1+j=i+(j+1) by omega] at this
theorem MAt.at {w:World} {B:Nat} : ∀ {l:VM} {A:Option Addr} {i j:Nat} {nm:ByteArray} {v:VT},MAt w B l A i→l.get j=some (nm,v)→∃ b o c0 c1 c2 c3 c4,A=some ⟨b,o,none⟩∧b < B∧w.cell? ⟨b,o+(i+j)*6,none⟩=some (.string nm)∧nm.size≤9223372036854775807∧Five w b (o+(i+j)*6+1) c0 c1 c2 c3 c4∧VAt w B v c0 c1 c2 c3 c4
 | .nil,_,_,_,_,_,_,h=>by simp [VM.get] at h
 | .cons u x t,A,i,0,nm,v,h,hg=>by
   unfold MAt at h
   have:u=nm∧x=v:=by simpa [VM.get] using hg
   obtain ⟨rfl,rfl⟩:=this
   exact h.1
 | .cons u x t,A,i,j+1,nm,v,h,hg=>by
   unfold MAt at h
   have:=MAt.at h.2 (j:=j) (nm:=nm) (v:=v) hg
   rwa [show i+1+j=i+(j+1) by omega] at this
theorem cellsV:Tryz.prog.cellsOf 58=5:=by kernel_rfl
theorem cellsM:Tryz.prog.cellsOf 97=6:=by kernel_rfl
theorem cellsI:Tryz.prog.cellsOf 3=1:=by kernel_rfl
theorem cellsI64:Tryz.prog.cellsOf 2=1:=by kernel_rfl
theorem cellsS:Tryz.prog.cellsOf 9=1:=by kernel_rfl
theorem cellsLV:Tryz.prog.cellsOf 55=1:=by kernel_rfl
theorem cellsLM:Tryz.prog.cellsOf 56=1:=by kernel_rfl
theorem five_list {cs:List Value} (h:cs.length=5):∃ c0 c1 c2 c3 c4,cs=[c0,c1,c2,c3,c4]:=by
 match cs,h with
 | [a,b,c,d,e],_=>exact ⟨a,b,c,d,e,rfl⟩
theorem six_list {cs:List Value} (h:cs.length=6):∃ c0 c1 c2 c3 c4 c5,cs=[c0,c1,c2,c3,c4,c5]:=by
 match cs,h with
 | [a,b,c,d,e,f],_=>exact ⟨a,b,c,d,e,f,rfl⟩
theorem add_at {b o i:Nat} : (⟨b,o,none⟩:Addr).add i=⟨b,o+i,none⟩:=by unfold Addr.add;split<;>simp_all
open Go.RowKit
mutual
def sizeV:VT→Nat
 | .mk _ _ s l m=>1+s.size+sizeL l+sizeM m
def sizeL:VL→Nat
 | .nil=>0
 | .cons v t=>sizeV v+sizeL t
def sizeM:VM→Nat
 | .nil=>0
 | .cons nm v t=>nm.size+sizeV v+sizeM t
end
def preL:VL→Nat→Nat
 | .nil,_=>0
 | .cons _ _,0=>0
 | .cons v t,j+1=>sizeV v+preL t j
def preM:VM→Nat→Nat
 | .nil,_=>0
 | .cons _ _ _,0=>0
 | .cons nm v t,j+1=>nm.size+sizeV v+preM t j
theorem preL_zero (l:VL):preL l 0=0:=by cases l<;>rfl
theorem preM_zero (l:VM):preM l 0=0:=by cases l<;>rfl
theorem preL_next:∀ {l:VL} {j:Nat} {v:VT},l.get j=some v→preL l (j+1)=preL l j+sizeV v
 | .nil,_,_,h=>by simp [VL.get] at h
 | .cons u t,0,v,h=>by
   have:u=v:=by simpa [VL.get] using h
   subst this
   show sizeV u+preL t 0=0+sizeV u
   rw [preL_zero];omega
 | .cons u t,j+1,v,h=>by
   have:=preL_next (l:=t) (j:=j) (v:=v) h
   rw [preL,this,preL];omega
theorem preM_next:∀ {l:VM} {j:Nat} {nm:ByteArray} {v:VT},l.get j=some (nm,v)→preM l (j+1)=preM l j+nm.size+sizeV v
 | .nil,_,_,_,h=>by simp [VM.get] at h
 | .cons x u t,0,nm,v,h=>by
   have:x=nm∧u=v:=by simpa [VM.get] using h
   obtain ⟨rfl,rfl⟩:=this
   show x.size+sizeV u+preM t 0=0+x.size+sizeV u
   rw [preM_zero];omega
 | .cons x u t,j+1,nm,v,h=>by
   have:=preM_next (l:=t) (j:=j) (nm:=nm) (v:=v) h
   rw [preM,this,preM];omega
theorem preL_all:∀ l:VL,preL l l.len=sizeL l
 | .nil=>rfl
 | .cons v t=>by rw [VL.len,preL,preL_all t,sizeL]
theorem preM_all:∀ l:VM,preM l l.len=sizeM l
 | .nil=>rfl
 | .cons nm v t=>by rw [VM.len,preM,preM_all t,sizeM]
theorem sizeL_get:∀ {l:VL} {j:Nat} {v:VT},l.get j=some v→sizeV v≤sizeL l
 | .nil,_,_,h=>by simp [VL.get] at h
 | .cons u t,0,v,h=>by
   have:u=v:=by simpa [VL.get] using h
   subst this
   rw [sizeL];omega
 | .cons u t,j+1,v,h=>by
   have:=sizeL_get (l:=t) (j:=j) (v:=v) h
   rw [sizeL];omega
theorem sizeM_get:∀ {l:VM} {j:Nat} {nm:ByteArray} {v:VT},l.get j=some (nm,v)→nm.size+sizeV v≤sizeM l
 | .nil,_,_,_,h=>by simp [VM.get] at h
 | .cons x u t,0,nm,v,h=>by
   have:x=nm∧u=v:=by simpa [VM.get] using h
   obtain ⟨rfl,rfl⟩:=this
   rw [sizeM];omega
 | .cons x u t,j+1,nm,v,h=>by
   have:=sizeM_get (l:=t) (j:=j) (nm:=nm) (v:=v) h
   rw [sizeM];omega
def W64 (n:Nat):Int:=IntKind.i64.wrap (n:Int)
theorem W64_add (a b:Nat):IntKind.i64.wrap (W64 a+W64 b)=W64 (a+b):=by
 unfold W64
 simp only [IntKind.wrap_i64]
 omega
theorem W64_plus (a b:Nat):IntKind.i64.wrap (W64 a+(b:Int))=W64 (a+b):=by
 unfold W64
 simp only [IntKind.wrap_i64]
 omega
theorem W64_one (b:Nat):IntKind.i64.wrap (1+(b:Int))=W64 (1+b):=by
 unfold W64
 simp only [IntKind.wrap_i64]
 omega
def KV (w:World) (c2 c3 c4:Value) (w':World):Prop:=w'.cell? ⟨w.heap.size,2,none⟩=some c2∧w'.cell? ⟨w.heap.size,3,none⟩=some c3∧w'.cell? ⟨w.heap.size,4,none⟩=some c4∧Below w.heap.size w w'∧w.heap.size < w'.heap.size
theorem KV.next {w W W':World} {c2 c3 c4:Value} (h:KV w c2 c3 c4 W) (hb:Below W.heap.size W W'):KV w c2 c3 c4 W':=by
 obtain ⟨h2,h3,h4,hB,hs⟩:=h
 exact ⟨(hb.cell (p:=⟨_,_,none⟩) hs).trans h2,(hb.cell (p:=⟨_,_,none⟩) hs).trans h3,(hb.cell (p:=⟨_,_,none⟩) hs).trans h4,hB.trans (hb.mono hB.size),Nat.lt_of_lt_of_le hs hb.size⟩
theorem KV.start (w:World) (c0 c1 c2 c3 c4:Value) (t:TypeId):KV w c2 c3 c4 (w.alloc (.cells #[c0,c1,c2,c3,c4] t)):=by
 refine ⟨?_,?_,?_,(Below.refl _ _).alloc (Nat.le_refl _) _,by simp⟩<;>(simp only [World.cell?];rw [show (w.alloc (.cells #[c0,c1,c2,c3,c4] t)).heap[w.heap.size]? = some (.cells #[c0,c1,c2,c3,c4] t) by show (w.heap.push _)[w.heap.size]? = _;simp];rfl)
def KM (w:World) (c2 c3 c4:Value) (b O:Nat) (nm d0 d1 d2 d3 d4:Value) (w':World):Prop:=w'.cell? ⟨w.heap.size,4,none⟩=some c4∧w'.cell? ⟨b,O,none⟩=some nm∧Five w' b (O+1) d0 d1 d2 d3 d4∧KV w c2 c3 c4 w'
theorem KM.next {w W W':World} {c2 c3 c4:Value} {b O:Nat} {nm d0 d1 d2 d3 d4:Value} (h:KM w c2 c3 c4 b O nm d0 d1 d2 d3 d4 W) (hbw:b < w.heap.size) (hb:Below W.heap.size W W'):KM w c2 c3 c4 b O nm d0 d1 d2 d3 d4 W':=by
 obtain ⟨h4,hn,hF,hK⟩:=h
 have hl:b < W.heap.size:=Nat.lt_trans hbw hK.2.2.2.2
 have hK':=hK.next hb
 exact ⟨hK'.2.2.1,(hb.cell (p:=⟨b,_,none⟩) hl).trans hn,hF.below hb hl,hK'⟩
theorem KM.below {w W:World} {c2 c3 c4:Value} {b O:Nat} {nm d0 d1 d2 d3 d4:Value} (h:KM w c2 c3 c4 b O nm d0 d1 d2 d3 d4 W):Below w.heap.size w W:=h.2.2.2.2.2.2.1
theorem KM.written {w W:World} {c2 c3 c4:Value} {b O:Nat} {nm d0 d1 d2 d3 d4:Value} (h:KM w c2 c3 c4 b O nm d0 d1 d2 d3 d4 W):W.cell? ⟨w.heap.size,4,none⟩=some c4∧W.cell? ⟨b,O,none⟩=some nm∧W.cell? ⟨b,O+1,none⟩=some d0∧W.cell? ⟨b,O+1+1,none⟩=some d1∧W.cell? ⟨b,O+1+2,none⟩=some d2∧W.cell? ⟨b,O+1+3,none⟩=some d3∧W.cell? ⟨b,O+1+4,none⟩=some d4∧KM w c2 c3 c4 b O nm d0 d1 d2 d3 d4 W:=
 ⟨h.1,h.2.1,h.2.2.1.1,h.2.2.1.2.1,h.2.2.1.2.2.1,h.2.2.1.2.2.2.1,h.2.2.1.2.2.2.2,h⟩
theorem vret {a b:Nat} (h:b=a):Ending.returned (.int .i64 (W64 a))=.returned (.int .i64 (W64 b)):=by rw [h]
theorem W64_two (a b c:Nat):IntKind.i64.wrap (IntKind.i64.wrap (W64 a+(b:Int))+W64 c)=W64 (a+b+c):=by
 rw [W64_plus,W64_add]
theorem vsize_any:∀ (N:Nat) (v:VT),sizeV v≤N→∀ (c0 c1 c2 c3 c4:Value) (w:World) (B:Nat),B≤w.heap.size→VAt w B v c0 c1 c2 c3 c4 →
   Calls Tryz.prog 53 #[.agg #[c0,c1,c2,c3,c4]] w fun e w'=>e=.returned (.int .i64 (W64 (sizeV v)))∧Below w.heap.size w w':=by
 intro N
 induction N with
 | zero=>intro v h;cases v;rw [sizeV] at h;omega
 | succ N ih =>
   intro v hN c0 c1 c2 c3 c4 w B hB hv
   obtain ⟨k,n,s,l,m⟩:=v
   have hsz:sizeV (.mk k n s l m)=1+s.size+sizeL l+sizeM m:=by rw [sizeV]
   rw [hsz] at hN ⊢
   unfold VAt at hv
   obtain ⟨rfl,rfl,rfl,hs,⟨A,c,rfl,hl,hL⟩,A',c',rfl,hm,hM⟩:=hv
   have HL:=Hd hL
   have HM:=Hd hM
   have IH:=Hd ih
   have hw1:=W64_one s.size
   have HB0:=Hd hB
   clear hL hM ih hsz hB
   go_enter Tryz.func53,Tryz.ntmps53
   go_wp2_with fail
   go_loopg [3,4] l.len (fun g out i wx=>∃ q:Nat,q+g=l.len∧i=.int .i64 q∧out=.int .i64 (W64 (1+s.size+preL l q))∧KV w (.string s) (.slice A l.len c) (.slice A' m.len c') wx)
   case atStart=>exact ⟨0,by omega,rfl,by rw [preL_zero,Nat.add_zero],KV.start _ _ _ _ _ _ _⟩
   case round =>
    obtain ⟨q,hq,rfl,rfl,hK⟩:=hrel
    have K:=Hd hK
    obtain ⟨h2,h3,h4,hb,hlt0⟩:=hK
    have HBB:=Hd hb
    clear hb hw1
    cases gk with
    | zero =>
      obtain rfl:q=l.len:=by omega
      rw [preL_all]
      obtain ⟨T,hT⟩:∃ T:Nat,1+s.size+sizeL l=T:=⟨_,rfl⟩
      rw [hT] at hN ⊢
      have hT1:1≤T:=by omega
      have HT:=Hd hT
      clear hT hlt0
      go_wp2_with fail
      clear h2 h3 h4
      go_loopg [3,5] m.len (fun g out i wx=>∃ q:Nat,q+g=m.len∧i=.int .i64 q∧out=.int .i64 (W64 (T+preM m q))∧KV w (.string s) (.slice A l.len c) (.slice A' m.len c') wx)
      case atStart=>exact ⟨0,by omega,rfl,by rw [preM_zero,Nat.add_zero],K.out⟩
      case round =>
       obtain ⟨q,hq,rfl,rfl,hK⟩:=hrel
       have K':=Hd hK
       obtain ⟨h2,h3,h4,hb,hlt0⟩:=hK
       have HBC:=Hd hb
       clear hb h2 h3
       cases gk with
       | zero =>
         obtain rfl:q=m.len:=by omega
         rw [preM_all]
         go_wp2_with fail
         go_ret
         exact ⟨vret (by rw [HT.out]),HBC.out⟩
       | succ g =>
         have hqn:q < m.len:=by omega
         have hqn':(q:Int) < (m.len:Int):=by omega
         obtain ⟨⟨nm,v⟩,hv⟩:=VM.get_lt hqn
         have hvN:=sizeM_get hv
         obtain ⟨b,o,d0,d1,d2,d3,d4,rfl,hblt,hnm,hns,hF,hV⟩:=MAt.at HM.out hv
         rw [Nat.zero_add] at hF hnm
         have hbw:b < w.heap.size:=Nat.lt_of_lt_of_le hblt HB0.out
         have hE:KM w (.string s) (.slice A l.len c) (.slice (some ⟨b,o,none⟩) m.len c') b (o+q*6) (.string nm) d0 d1 d2 d3 d4 wr:=⟨h4,(HBC.out.cell (p:=⟨b,_,none⟩) hbw).trans hnm,hF.below HBC.out hbw,K'.out⟩
         have hE2:=hE
         obtain ⟨f4,f5,⟨f6,f7,f8,f9,f10⟩,_⟩:=hE2
         have HBW:=Hd hbw
         have C:=fun (wx:World) (hx:Below w.heap.size w wx)=>Hd (IH.out v (by omega) d0 d1 d2 d3 d4 wx B (Nat.le_trans HB0.out hx.size) (VAt.below (hx.mono HB0.out) _ _ _ _ _ _ hV))
         have hs2:=W64_two (T+preM m q) nm.size (sizeV v)
         have hs1:=W64_plus (T+preM m q) nm.size
         have hs0:=W64_add (T+preM m q+nm.size) (sizeV v)
         have hnx:=Hd (preM_next hv)
         clear hV hvN hv hbw hF hnm hblt h4
         go_wp2_with fail
         go_region_held3 (fun w'=>w'.cell? ⟨w.heap.size,4,none⟩=some (.slice (some ⟨b,o,none⟩) m.len c')∧w'.cell? ⟨b,o+q*6,none⟩=some (.string nm)∧w'.cell? ⟨b,o+q*6+1,none⟩=some d0∧w'.cell? ⟨b,o+q*6+1+1,none⟩=some d1∧w'.cell? ⟨b,o+q*6+1+2,none⟩=some d2∧w'.cell? ⟨b,o+q*6+1+3,none⟩=some d3∧w'.cell? ⟨b,o+q*6+1+4,none⟩=some d4∧KM w (.string s) (.slice A l.len c) (.slice (some ⟨b,o,none⟩) m.len c') b (o+q*6) (.string nm) d0 d1 d2 d3 d4 w')
          (first
           | exact KM.written (hE.next HBW.out (Below.drew (Below.refl _ _)))
           | exact KM.written ((hE.next HBW.out (Below.drew (Below.refl _ _))).next HBW.out (by assumption))
           | exact KM.written (hE.next HBW.out (by assumption))
           | exact KM.written (KM.next (by assumption) HBW.out (by assumption))
           | go_keep)
          ((first|(go_at_call 53;refine (C _ (by first|exact Below.drew (KM.below hE)|exact KM.below (by assumption))).out.mono ?_;rintro e w' ⟨rfl,hb⟩)))
         all_goals
          have HKM:KM w (.string s) (.slice A l.len c) (.slice (some ⟨b,o,none⟩) m.len c') b (o+q*6) (.string nm) d0 d1 d2 d3 d4 w':=And.right (And.right (And.right (And.right (And.right (And.right (And.right (by assumption)))))))
          have HKB:=Hd HKM.2.2.2
          clear HKM hE C hs2 hs1 hs0 f4 f5 f6 f7 f8 f9 f10
          go_wp2_with fail
          go_roundg g
          case measure=>omega
          case rel=>exact ⟨q+1,by omega,by go_num,by rw [hnx.out,← Nat.add_assoc,← Nat.add_assoc],HKB.out⟩
    | succ g =>
      have hqn:q < l.len:=by omega
      have hqn':(q:Int) < (l.len:Int):=by omega
      obtain ⟨v,hv⟩:=VL.get_lt hqn
      have hvN:=sizeL_get hv
      obtain ⟨b,o,d0,d1,d2,d3,d4,rfl,hblt,hF,hV⟩:=LAt.at (LAt.below (HBB.out.mono HB0.out) _ _ _ HL.out) hv
      rw [Nat.zero_add] at hF
      obtain ⟨g0,g1,g2,g3,g4⟩:=hF
      have C:=Hd (IH.out v (by omega) d0 d1 d2 d3 d4 wr B (Nat.le_trans HB0.out HBB.out.size) hV)
      have hsum:=W64_add (1+s.size+preL l q) (sizeV v)
      have hnx:=Hd (preL_next hv)
      clear hV hvN hv
      go_wp2_with fail
      refine C.out.mono ?_
      rintro e w2 ⟨rfl,hb2⟩
      have K2:=Hd (K.out.next hb2)
      clear hb2 h2 h3 h4 g0 g1 g2 g3 g4
      go_wp2_with fail
      go_roundg g
      case measure=>omega
      case rel=>exact ⟨q+1,by omega,by go_num,by rw [hnx.out,← Nat.add_assoc],K2.out⟩
end Go.Proofs.YtaekdfcpbepepaaGreatDoor
