/- Plain facts on lines of bytes, of no program: lines, how far they stand in, what a block says. -/
import Derived.Deep.RegionHeld
import Derived.Lib.Strings
import Derived.Test.YtpkmbhnikilihaaGreatDoorChecked
import Derived.WalkKit
import Derived.Deep.LoopGhost
import Derived.Below
import Derived.Lib.Hide
import Derived.Laws.AppendOwn
import Derived.Laws.MakeOwn
import Derived.Laws.AppendOwnNone
import Derived.Deep.AppendLies
import Derived.Deep.QuietTactic
import Derived.BigQuiet
import Derived.Deep.Draws
import Derived.StillTailTactics
import Derived.Deep.DeepCutAuto
import Derived.Deep.CutBlock
import Derived.Test.YtpkmbhnikilihaaGreatDoorRows
import Derived.ProofKit
import Derived.Carry
import Derived.Deep.Strs
import Derived.Deep.Slices
import Derived.Deep.WholeRow
import Derived.Deep.RegionHeld3
import Derived.Shelf.Abstract
set_option maxRecDepth 100000
set_option maxHeartbeats 4000000
namespace Go.Proofs.YtpkmbhnikilihaaGreatDoor
open Go.RowKit
theorem tkE {P:Program} {md:Region.Mode} {ops:Array Oper} {Q:Exit→Act→World→Prop} {i:Nat} {oi:Oper} {v:Value} {fuel:Nat} {listed:Array Bool} {a:Act} {w:World} (hi:ops[i]? = some oi) (hy:YieldsIf P ops (fun _=>True) oi v a)
    (h:wpAnyH P md ops Q (fun _=>True) fuel (listed.setIfInBounds i true) (a.put oi.dst v) w) (hs:Region.noSelect ops=true:=by kernel_rfl) (hf:Region.free md ops listed i=true:=by kernel_rfl) (hr:(Region.ready md ops listed).contains i=true:=by kernel_rfl)
    (hQ:∀ c a w,Q (.panic c) (a.put oi.dst v) w→Q (.panic c) a w:=by exact fun _ _ _ h=>h):wpAnyH P md ops Q (fun _=>True) (fuel+1) listed a w:=wpAnyH_take hi hs hf hr hQ hy trivial h
theorem rdE {P:Program} {md:Region.Mode} {ops:Array Oper} {Q:Exit→Act→World→Prop} {S:World→Prop} {rs:List Nat} {fuel:Nat} {listed:Array Bool} {a:Act} {w:World} (h:AllReadyH P md ops Q S fuel listed a w rs) (hr:Region.ready md ops listed=rs:=by kernel_rfl) (hne:rs ≠ []:=by simp):wpAnyH P md ops Q S (fuel+1) listed a w:=wpAnyH_ready hr hne h
theorem rd1E {P:Program} {md:Region.Mode} {ops:Array Oper} {Q:Exit→Act→World→Prop} {S:World→Prop} {fuel:Nat} {listed:Array Bool} {a:Act} {w:World} (i:Nat) {o:Oper} (ho:ops[i]? = some o) (h:∀ K':Act→World→Prop,Shut (∀ a w,S w→(S w→wpAnyH P md ops Q S fuel (listed.setIfInBounds i true) a w)→K' a w)→if Region.wanted o (yielded ops a.tmps)=true then Oper.wp P o a w K' Q else K' (a.put o.dst undef) w) (hr:Region.ready md ops listed=[i]:=by kernel_rfl):wpAnyH P md ops Q S (fuel+1) listed a w:=wpAnyH_ready hr (by simp) (AllReadyH.cons ho h AllReadyH.nil)
theorem rd2E {P:Program} {md:Region.Mode} {ops:Array Oper} {Q:Exit→Act→World→Prop} {S:World→Prop} {fuel:Nat} {listed:Array Bool} {a:Act} {w:World} (i j:Nat) {o o':Oper} (ho:ops[i]? = some o) (ho':ops[j]? = some o') (h:∀ K':Act→World→Prop,Shut (∀ a w,S w→(S w→wpAnyH P md ops Q S fuel (listed.setIfInBounds i true) a w)→K' a w)→if Region.wanted o (yielded ops a.tmps)=true then Oper.wp P o a w K' Q else K' (a.put o.dst undef) w) (h':∀ K':Act→World→Prop,Shut (∀ a w,S w→(S w→wpAnyH P md ops Q S fuel (listed.setIfInBounds j true) a w)→K' a w)→if Region.wanted o' (yielded ops a.tmps)=true then Oper.wp P o' a w K' Q else K' (a.put o'.dst undef) w) (hr:Region.ready md ops listed=[i,j]:=by kernel_rfl):wpAnyH P md ops Q S (fuel+1) listed a w:=wpAnyH_ready hr (by simp) (AllReadyH.cons ho h (AllReadyH.cons ho' h' AllReadyH.nil))
theorem cQE {p:Program} {f:FuncId} {args:Array Value} {w:World} {R:Ending→World→Prop} (H:∀ Q:Ending→World→Prop,(∀ e w',R e w'→Q e w')→Calls p f args w Q):Calls p f args w R:=H _ (fun _ _ h=>h)
end Go.Proofs.YtpkmbhnikilihaaGreatDoor
namespace Go.Proofs.YtpkmbhnikilihaaGreatDoor
theorem Hd {p:Prop} (h:p):Go.RowKit.Hid p:=Go.Lib.hid h
theorem stT {a:List Value} {i:Nat} {x:Value} : a.toArray.setIfInBounds i x=(a.set i x).toArray:=by simp
theorem stZ {x y:Value} {a:List Value} : (x :: a).set 0 y=y :: a:=rfl
theorem stS {x y:Value} {a:List Value} {i:Nat} : (x :: a).set (i+1) y=x :: a.set i y:=rfl
end Go.Proofs.YtpkmbhnikilihaaGreatDoor
namespace Go.Proofs.YtpkmbhnikilihaaGreatDoor.Blk
def eolB (c:UInt8):Bool:=c == 10 || c == 13
def firstL (l:List UInt8):List UInt8:=l.takeWhile fun c=>!eolB c
def afterL (l:List UInt8):Option (List UInt8):=
 match l.dropWhile fun c=>!eolB c with
 | []=>none
 | c :: t=>if c=13 then (match t with|d :: t'=>if d=10 then some t' else some t|[]=>some t) else some t
def Dy:Nat→List UInt8→List (List UInt8)
 | 0,l=>[l]
 | n+1,l=>firstL l :: (match afterL l with|none=>[]|some t=>Dy n t)
def linesL (l:List UInt8):List (List UInt8):=Dy (l.length+1) l
theorem Qu (p:UInt8→Bool):∀ l:List UInt8,(l.dropWhile p).length≤l.length:=by
 intro l
 induction l with
 | nil=>simp
 | cons c t ih=>rw [List.dropWhile_cons];split<;>simp<;>omega
theorem afterL_len {l t:List UInt8} (h:afterL l=some t):t.length < l.length:=by
 unfold afterL at h
 have hl:=Qu (fun c=>!eolB c) l
 split at h
 · cases h
 · rename_i c r hd
   rw [hd] at hl
   simp only [List.length_cons] at hl
   split at h
   · split at h
     · split at h
       · cases h;simp only [List.length_cons] at hl;omega
       · cases h;simp only [List.length_cons] at hl ⊢;omega
     · cases h;simp only [List.length_nil] at hl ⊢;omega
   · cases h;omega
theorem Re:∀ (n m:Nat) (l:List UInt8),l.length < n→l.length < m→Dy n l=Dy m l:=by
 intro n
 induction n with
 | zero=>intro m l h;omega
 | succ n ih =>
   intro m l hn hm
   cases m with
   | zero=>omega
   | succ m =>
     simp only [Dy]
     cases ha:afterL l with
     | none=>rfl
     | some t =>
       have:=afterL_len ha
       simp only
       rw [ih m t (by omega) (by omega)]
theorem linesL_eq (l:List UInt8):linesL l=firstL l :: (match afterL l with|none=>[]|some t=>linesL t):=by
 show Dy (l.length+1) l=_
 simp only [Dy]
 cases ha:afterL l with
 | none=>rfl
 | some t =>
   have:=afterL_len ha
   simp only [linesL]
   rw [Re l.length (t.length+1) t (by omega) (by omega)]
def Ix (l:List UInt8):Prop:=∀ c ∈ l,eolB c=false
theorem Vh {a:List UInt8} (h:Ix a) (r:List UInt8):(a++r).takeWhile (fun c=>!eolB c)=a++r.takeWhile (fun c=>!eolB c):=by
 induction a with
 | nil=>rfl
 | cons c a ih =>
   have hc:=h c (by simp)
   rw [List.cons_append,List.takeWhile_cons,hc,List.cons_append]
   simp only [Bool.not_false,if_true]
   rw [ih (fun d hd=>h d (by simp [hd]))]
theorem Vo {a:List UInt8} (h:Ix a) (r:List UInt8):(a++r).dropWhile (fun c=>!eolB c)=r.dropWhile (fun c=>!eolB c):=by
 induction a with
 | nil=>rfl
 | cons c a ih =>
   have hc:=h c (by simp)
   rw [List.cons_append,List.dropWhile_cons,hc]
   simp only [Bool.not_false,if_true]
   exact ih (fun d hd=>h d (by simp [hd]))
theorem Zvo {a:List UInt8} (h:Ix a):linesL a=[a]:=by
 have h1:=Vh h []
 have h2:=Vo h []
 rw [List.append_nil] at h1 h2
 rw [linesL_eq]
 unfold firstL afterL
 rw [h1,h2]
 simp
theorem Zyb {a r:List UInt8} (h:Ix a):linesL (a++10 :: r)=a :: linesL r:=by
 rw [linesL_eq]
 unfold firstL afterL
 rw [Vh h,Vo h]
 simp [eolB]
theorem Zqk {a r:List UInt8} (h:Ix a):linesL (a++13 :: 10 :: r)=a :: linesL r:=by
 rw [linesL_eq]
 unfold firstL afterL
 rw [Vh h,Vo h]
 simp [eolB]
theorem Ybk {a r:List UInt8} (h:Ix a) (hr:r.head? ≠ some 10):linesL (a++13 :: r)=a :: linesL r:=by
 rw [linesL_eq]
 unfold firstL afterL
 rw [Vh h,Vo h]
 cases r with
 | nil=>simp [eolB]
 | cons d r =>
   have hd:d ≠ 10:=fun e=>hr (by rw [e];rfl)
   simp [eolB,hd]
theorem Bw (l:List UInt8):linesL l ≠ []:=by rw [linesL_eq];simp
def blankB (c:UInt8):Bool:=c == 9 || c == 32
def leadN (l:List UInt8):Nat:=(l.takeWhile blankB).length
def inkB (l:List UInt8):Bool:=l.any fun c=>!blankB c
def stepI (out:Int) (x:List UInt8):Int:=if inkB x=true∧(out < 0∨(leadN x:Int) < out) then (leadN x:Int) else out
def indentL (ls:List (List UInt8)):Int:=(ls.drop 1).foldl stepI (-1)
def cutL (n:Nat):List (List UInt8)→List (List UInt8)
 | []=>[]
 | x :: t=>x :: t.map (List.drop n)
def Iv (ls:List (List UInt8)):List (List UInt8):=ls.dropWhile fun x=>!inkB x
def O0 (ls:List (List UInt8)):List (List UInt8):=(Iv (Iv ls).reverse).reverse
def joinTen:List (List UInt8)→List UInt8
 | []=>[]
 | [x]=>x
 | x :: y :: t=>x++10 :: joinTen (y :: t)
def Tw (raw:List UInt8):List (List UInt8):=O0 (cutL (max (indentL (linesL raw)) 0).toNat (linesL raw))
def valueL (raw:List UInt8):List UInt8:=joinTen (Tw raw)
open Go.RowKit
theorem Aside.intro {p:Prop} (h:p):Aside p:=h
theorem Yy {a b:Bool} (h:a=b):Ending.returned (.bool a)=.returned (.bool b):=by rw [h]
theorem Yaj {a b:Int} (h:a=b):Ending.returned (.int .i64 a)=.returned (.int .i64 b):=by rw [h]
theorem Zqd {a b:ByteArray} (h:a=b):Ending.returned (.string a)=.returned (.string b):=by rw [h]
theorem Zk7 {w w':World} (h:Below w.heap.size w w'):w.grownBy w' none:=⟨h.os,h.tape,h.output,h.size,fun i hi _=>h.block i hi⟩
theorem Zkt (v:Value):v.ownBlock=none∨v.ownBlock ≠ none:=Classical.em _
theorem Xk {w:World} {base:Nat} {e:TypeId} {v:Value} {n:Nat} {xs:List Value} (h:w.ownsRow base e 1 v n xs):∃ A cap,v=.slice A n cap:=by
 rcases h.2 with ⟨hv,hn⟩|⟨g,cap,cur,hv,_⟩
 · exact ⟨none,0,by rw [hv,hn]⟩
 · exact ⟨_,_,hv⟩
def Fb (w:World) (B:Nat) (A:Option Addr) (n:Nat) (xs:List ByteArray):Prop:=
 xs.length=n∧∀ (j:Nat) x,xs[j]? = some x→∃ b o,A=some ⟨b,o,none⟩∧b < B∧w.cell? ⟨b,o+j,none⟩=some (.string x)
theorem Fb.below {w w':World} {B:Nat} {A:Option Addr} {n:Nat} {xs:List ByteArray} (h:Fb w B A n xs) (hb:Below B w w'):Fb w' B A n xs:=
 ⟨h.1,fun j z hz=>by
  obtain ⟨b,o,e,hlt,hc⟩:=h.2 j z hz
  exact ⟨b,o,e,hlt,(hb.cell (p:=⟨b,o+j,none⟩) hlt).trans hc⟩⟩
theorem Fb.more {w:World} {B B':Nat} {A:Option Addr} {n:Nat} {xs:List ByteArray} (h:Fb w B A n xs) (hB:B≤B'):Fb w B' A n xs:=
 ⟨h.1,fun j z hz=>by
  obtain ⟨b,o,e,hlt,hc⟩:=h.2 j z hz
  exact ⟨b,o,e,by omega,hc⟩⟩
theorem Fb.on {w w':World} {A:Option Addr} {n:Nat} {xs:List ByteArray} (h:Fb w w.heap.size A n xs) (hb:Below w.heap.size w w'):Fb w' w'.heap.size A n xs:=(h.below hb).more hb.size
theorem C5 {w:World} {base n:Nat} {A:Option Addr} {cap:Nat} {xs:List ByteArray} (h:w.ownsRow base 9 1 (.slice A n cap) xs.length (xs.map Value.string)):n=xs.length∧Fb w w.heap.size A xs.length xs:=by
 rcases h.2 with ⟨hv,hn⟩|⟨g,c,cur,hv,hbase,hh,hnc,hm,hcs,htk⟩
 · injection hv with h1 h2 h3
   have hus:xs=[]:=List.eq_nil_of_length_eq_zero hn
   subst hus
   exact ⟨by simpa using h2,⟨rfl,fun j z hz=>by simp at hz⟩⟩
 · have hv':=hv
   injection hv' with h1 h2 h3
   subst h1
   refine ⟨h2,rfl,fun j z hz=>⟨g,0,rfl,?_,?_⟩⟩
   · exact (h.lt g rfl).2
   · subst h2 h3
     rw [Nat.zero_add,World.ownsRow.cellAt h j (by have:=(List.getElem?_eq_some_iff.1 hz).1;omega),List.getElem?_map,hz]
     rfl
def Zx (l:List UInt8):List ByteArray:=(linesL l).map fun x=>⟨x.toArray⟩
theorem Lc {b c:UInt8} (h:b ≠ c):(b.toNat:Int) ≠ (c.toNat:Int):=fun e=>h (UInt8.toNat_inj.1 (by omega))
theorem Nr {b:UInt8} {z:Int} (h:(b.toNat:Int) ≠ z):((b.toNat:Int) == z)=false:=by simp [h]
theorem Nx {b:UInt8} {z:Int} (h:(b.toNat:Int) ≠ z):((b.toNat:Int) != z)=true:=by simp [h]
theorem Z9 (s:ByteArray) (f k:Nat) (hf:f≤k) (hk:k < s.size):s.data.toList.drop f=(s.data.toList.drop f).take (k - f)++s[k] :: s.data.toList.drop (k+1):=by
 have hl:s.data.toList.length=s.size:=Array.length_toList
 have e:=(List.take_append_drop (k - f) (s.data.toList.drop f)).symm
 rw [List.drop_drop,show f+(k - f)=k from by omega,List.drop_eq_getElem_cons (i:=k) (by omega)] at e
 exact e
theorem Mx {s:ByteArray} {f k:Nat} (hf:f≤k) (hk:k < s.size) (h:Ix ((s.data.toList.drop f).take (k - f))) (hc:eolB s[k]=false):Ix ((s.data.toList.drop f).take (k+1 - f)):=by
 have hl:s.data.toList.length=s.size:=Array.length_toList
 have e:(s.data.toList.drop f).take (k+1 - f)=(s.data.toList.drop f).take (k - f)++[s[k]]:=by
   rw [show k+1 - f=(k - f)+1 from by omega,List.take_add_one,List.getElem?_drop,show f+(k - f)=k from by omega,List.getElem?_eq_getElem (by omega)]
   rfl
 rw [e]
 intro c hc'
 rw [List.mem_append] at hc'
 rcases hc' with h'|h'
 · exact h c h'
 · simp only [List.mem_cons,List.not_mem_nil,or_false] at h'
   rw [h'];exact hc
def V4 (s:ByteArray) (f k:Nat) (done:List ByteArray):Prop:=done++Zx (s.data.toList.drop f)=Zx s.data.toList∧Ix ((s.data.toList.drop f).take (k - f))
theorem Gz {S:ByteArray} {a:List UInt8} (h:S.data.toList=a):(⟨a.toArray⟩:ByteArray)=S:=by subst h;simp
theorem Ub (s:ByteArray) (f k:Nat):(s.extract f k).data.toList=(s.data.toList.drop f).take (k - f):=by
 rw [ByteArray.data_extract,Array.toList_extract,List.extract]
theorem V4.ten {s:ByteArray} {f k:Nat} {done:List ByteArray} (h:V4 s f k done) (hf:f≤k) (hk:k < s.size) (hc:s[k]=10):V4 s (k+1) (k+1) (done++[s.extract f k]):=by
 obtain ⟨h1,h2⟩:=h
 rw [Z9 s f k hf hk,hc] at h1
 unfold Zx at h1
 rw [Zyb h2,List.map_cons,Gz (Ub s f k)] at h1
 exact ⟨by unfold Zx;rw [← h1];simp,by simp [Ix]⟩
theorem V4.both {s:ByteArray} {f k:Nat} {done:List ByteArray} (h:V4 s f k done) (hf:f≤k) (hk:k+1 < s.size) (hc:s[k]=13) (hd:s[k+1]=10):V4 s (k+2) (k+2) (done++[s.extract f k]):=by
 obtain ⟨h1,h2⟩:=h
 have hl:s.data.toList.length=s.size:=Array.length_toList
 have e:s.data.toList.drop (k+1)=s[k+1] :: s.data.toList.drop (k+2):=List.drop_eq_getElem_cons (by omega)
 rw [Z9 s f k hf (by omega),hc,e,hd] at h1
 unfold Zx at h1
 rw [Zqk h2,List.map_cons,Gz (Ub s f k)] at h1
 exact ⟨by unfold Zx;rw [← h1];simp,by simp [Ix]⟩
theorem V4.cr {s:ByteArray} {f k:Nat} {done:List ByteArray} (h:V4 s f k done) (hf:f≤k) (hk:k < s.size) (hc:s[k]=13) (hd:∀ (h:k+1 < s.size),s[k+1] ≠ 10):V4 s (k+1) (k+1) (done++[s.extract f k]):=by
 obtain ⟨h1,h2⟩:=h
 have hl:s.data.toList.length=s.size:=Array.length_toList
 have hr:(s.data.toList.drop (k+1)).head? ≠ some 10:=by
  rw [List.head?_drop]
  by_cases hk1:k+1 < s.size
  · rw [List.getElem?_eq_getElem (by omega)]
    intro e
    injection e with e
    exact hd hk1 e
  · rw [List.getElem?_eq_none (by omega)]
    intro e;cases e
 rw [Z9 s f k hf hk,hc] at h1
 unfold Zx at h1
 rw [Ybk h2 hr,List.map_cons,Gz (Ub s f k)] at h1
 exact ⟨by unfold Zx;rw [← h1];simp,by simp [Ix]⟩
theorem V4.done {s:ByteArray} {f:Nat} {done:List ByteArray} (h:V4 s f s.size done):Zx s.data.toList=done++[s.extract f s.size]:=by
 obtain ⟨h1,h2⟩:=h
 have hl:s.data.toList.length=s.size:=Array.length_toList
 rw [List.take_of_length_le (by rw [List.length_drop];omega)] at h2
 rw [← h1]
 unfold Zx
 rw [Zvo h2]
 have:=Gz (Ub s f s.size)
 rw [List.take_of_length_le (by rw [List.length_drop];omega)] at this
 simp [this]
theorem Zk3:∃ i0,Tryz.prog.info? 9=some i0∧i0.zero=some (.string ByteArray.empty)∧i0.size=1∧i0.bytes=16:=by
 have hi9:(Tryz.prog.info? 9).map (fun i=>(i.zero,i.size,i.bytes))=some (some (.string ByteArray.empty),1,16):=by kernel_rfl
 obtain ⟨i0,hi,hx⟩:=Option.map_eq_some_iff.1 hi9
 simp only [Prod.mk.injEq] at hx
 exact ⟨i0,hi,hx.1,hx.2.1,hx.2.2⟩
theorem Zy2 (s:ByteArray) (w:World) (hs:s.size≤9000) :
  Calls Tryz.prog 269 #[.string s] w fun e w'=>∃ A cap,e=.returned (.slice A (Zx s.data.toList).length cap)∧w'.ownsRow w.heap.size 9 1 (.slice A (Zx s.data.toList).length cap) (Zx s.data.toList).length ((Zx s.data.toList).map Value.string)∧Below w.heap.size w w':=by
 obtain ⟨i0,hi,hz0,hz1,hz2⟩:=Zk3
 go_enter Tryz.func269,Tryz.ntmps269
 go_wp2
 go_loopg [3,4,5] s.size (fun g out fr i wx=>∃ (k f:Nat) (done:List ByteArray),f≤k∧k+g=s.size∧i=.int .i64 k∧fr=.int .i64 f∧done.length≤k∧Aside (V4 s f k done)∧wx.ownsRow w.heap.size 9 1 out done.length (done.map Value.string)∧Below w.heap.size w wx)
 case atStart=>exact ⟨0,0,[],by omega,by omega,rfl,rfl,by simp,Aside.intro ⟨by simp,by simp [Ix]⟩,World.ownsRow_nil _ _ _ _,Below.refl _ _⟩
 case round =>
  obtain ⟨k,f,done,hfk,hk,rfl,rfl,hdl,H,hown,hb⟩:=hrel
  obtain ⟨A,cap,rfl⟩:=Xk hown
  have hf0:(0:Int)≤(f:Int):=by omega
  have hfk':(f:Int)≤(k:Int):=by omega
  have hks:(k:Int)≤(s.size:Int):=by omega
  have HB:=Hd hb
  have hbs:=hb.size
  clear hb
  cases gk with
  | zero =>
    obtain rfl:k=s.size:=by omega
    have hdone:=Hd (H.out.done)
    clear H
    go_wp2_with (at_builtin;refine wpList_append_own _ rfl _ _ 51 rfl w.heap.size 9 i0 (.string ByteArray.empty) 1 16 Tryz.underlying51 hi hz0 hz1 hz2 rfl (by decide) _ _ _ rfl (hown.alloc _) ⟨wr.heap.size,0,none⟩ 1 1 [.string (s.extract f s.size)] rfl rfl (cell_one_new _ _ _) (by intro x hx;simp at hx;rcases hx with rfl;rfl) (by unfold maxLen;omega) (by omega) (by simp;omega) ?_;intro v' w3 hown' hgrow _;obtain ⟨A',cap',rfl⟩:=Xk hown';have HG:=Hd hgrow;have HO:=Hd hown';have HW:=Hd hown;clear hgrow hown' hown)
    go_ret
    refine ⟨A',cap',?_,?_,(HB.out.alloc HB.out.size _).grown HG.out (by simp;omega) (fun q hq=>(HW.out.lt q hq).1)⟩
    · rw [hdone.out,List.length_append];rfl
    · rw [hdone.out,List.map_append,List.length_append];exact HO.out
  | succ g =>
    have hlt:k < s.size:=by omega
    have hlt':(k:Int) < (s.size:Int):=by omega
    by_cases c10:s[k]=10
    · have n10:((s[k].toNat:Int) != 10)=false:=by rw [c10];rfl
      have n13:((s[k].toNat:Int) == 13)=false:=by rw [c10];rfl
      have hT:=Hd (H.out.ten hfk hlt c10)
      clear H c10
      go_wp2_with (at_builtin;refine wpList_append_own _ rfl _ _ 51 rfl w.heap.size 9 i0 (.string ByteArray.empty) 1 16 Tryz.underlying51 hi hz0 hz1 hz2 rfl (by decide) _ _ _ rfl (hown.alloc _) ⟨wr.heap.size,0,none⟩ 1 1 [.string (s.extract f k)] rfl rfl (cell_one_new _ _ _) (by intro x hx;simp at hx;rcases hx with rfl;rfl) (by unfold maxLen;omega) (by omega) (by simp;omega) ?_;intro v' w3 hown' hgrow _;obtain ⟨A',cap',rfl⟩:=Xk hown';have HG:=Hd hgrow;have HO:=Hd hown';have HW:=Hd hown;clear hgrow hown' hown)
      go_roundg g
      case measure=>omega
      case rel=>exact ⟨k+1,k+1,done++[s.extract f k],by omega,by omega,by go_num,by go_num,by simp;omega,Aside.intro hT.out,by rw [List.map_append,List.length_append];exact HO.out,(HB.out.alloc HB.out.size _).grown HG.out (by simp;omega) (fun q hq=>(HW.out.lt q hq).1)⟩
    by_cases c13:s[k]=13
    · have n10:((s[k].toNat:Int) != 10)=true:=by rw [c13];rfl
      have n13:((s[k].toNat:Int) != 13)=false:=by rw [c13];rfl
      have m13:((s[k].toNat:Int) == 13)=true:=by rw [c13];rfl
      by_cases hk1:k+1 < s.size
      · have hk1':(k:Int)+1 < (s.size:Int):=by omega
        by_cases d10:s[k+1]=10
        · have m10:((s[k+1].toNat:Int) == 10)=true:=by rw [d10];rfl
          have hT:=Hd (H.out.both hfk hk1 c13 d10)
          clear H c10 c13 d10
          go_wp2_with (at_builtin;refine wpList_append_own _ rfl _ _ 51 rfl w.heap.size 9 i0 (.string ByteArray.empty) 1 16 Tryz.underlying51 hi hz0 hz1 hz2 rfl (by decide) _ _ _ rfl (hown.alloc _) ⟨wr.heap.size,0,none⟩ 1 1 [.string (s.extract f k)] rfl rfl (cell_one_new _ _ _) (by intro x hx;simp at hx;rcases hx with rfl;rfl) (by unfold maxLen;omega) (by omega) (by simp;omega) ?_;intro v' w3 hown' hgrow _;obtain ⟨A',cap',rfl⟩:=Xk hown';have HG:=Hd hgrow;have HO:=Hd hown';have HW:=Hd hown;clear hgrow hown' hown)
          go_roundg (s.size - (k+2))
          case measure=>omega
          case rel=>exact ⟨k+2,k+2,done++[s.extract f k],by omega,by omega,by go_num,by go_num,by simp;omega,Aside.intro hT.out,by rw [List.map_append,List.length_append];exact HO.out,(HB.out.alloc HB.out.size _).grown HG.out (by simp;omega) (fun q hq=>(HW.out.lt q hq).1)⟩
        · have m10:((s[k+1].toNat:Int) == 10)=false:=Nr (Lc d10)
          have hT:=Hd (H.out.cr hfk hlt c13 (fun _=>d10))
          clear H c10 c13 d10
          go_wp2_with (at_builtin;refine wpList_append_own _ rfl _ _ 51 rfl w.heap.size 9 i0 (.string ByteArray.empty) 1 16 Tryz.underlying51 hi hz0 hz1 hz2 rfl (by decide) _ _ _ rfl (hown.alloc _) ⟨wr.heap.size,0,none⟩ 1 1 [.string (s.extract f k)] rfl rfl (cell_one_new _ _ _) (by intro x hx;simp at hx;rcases hx with rfl;rfl) (by unfold maxLen;omega) (by omega) (by simp;omega) ?_;intro v' w3 hown' hgrow _;obtain ⟨A',cap',rfl⟩:=Xk hown';have HG:=Hd hgrow;have HO:=Hd hown';have HW:=Hd hown;clear hgrow hown' hown)
          go_roundg g
          case measure=>omega
          case rel=>exact ⟨k+1,k+1,done++[s.extract f k],by omega,by omega,by go_num,by go_num,by simp;omega,Aside.intro hT.out,by rw [List.map_append,List.length_append];exact HO.out,(HB.out.alloc HB.out.size _).grown HG.out (by simp;omega) (fun q hq=>(HW.out.lt q hq).1)⟩
      · have hk1' : ¬ ((k:Int)+1 < (s.size:Int)):=by omega
        have hT:=Hd (H.out.cr hfk hlt c13 (fun h=>absurd h hk1))
        clear H c10 c13
        go_wp2_with (at_builtin;refine wpList_append_own _ rfl _ _ 51 rfl w.heap.size 9 i0 (.string ByteArray.empty) 1 16 Tryz.underlying51 hi hz0 hz1 hz2 rfl (by decide) _ _ _ rfl (hown.alloc _) ⟨wr.heap.size,0,none⟩ 1 1 [.string (s.extract f k)] rfl rfl (cell_one_new _ _ _) (by intro x hx;simp at hx;rcases hx with rfl;rfl) (by unfold maxLen;omega) (by omega) (by simp;omega) ?_;intro v' w3 hown' hgrow _;obtain ⟨A',cap',rfl⟩:=Xk hown';have HG:=Hd hgrow;have HO:=Hd hown';have HW:=Hd hown;clear hgrow hown' hown)
        go_roundg g
        case measure=>omega
        case rel=>exact ⟨k+1,k+1,done++[s.extract f k],by omega,by omega,by go_num,by go_num,by simp;omega,Aside.intro hT.out,by rw [List.map_append,List.length_append];exact HO.out,(HB.out.alloc HB.out.size _).grown HG.out (by simp;omega) (fun q hq=>(HW.out.lt q hq).1)⟩
    · have n10:((s[k].toNat:Int) != 10)=true:=Nx (Lc c10)
      have n13:((s[k].toNat:Int) != 13)=true:=Nx (Lc c13)
      have hT:Hid (V4 s f (k+1) done):=Hd ⟨H.out.1,Mx hfk hlt H.out.2 (by simp [eolB,c10,c13])⟩
      clear H c10 c13
      go_wp2
      go_roundg g
      case measure=>omega
      case rel=>exact ⟨k+1,f,done,by omega,by omega,by go_num,rfl,by omega,Aside.intro hT.out,hown,HB.out⟩
theorem Zqp {l:List UInt8} {k:Nat} {c:UInt8} (h:(l.take k).all blankB=true) (hc:l[k]? = some c) (hn:blankB c=false):leadN l=k∧inkB l=true:=by
 obtain ⟨hk,rfl⟩:=List.getElem?_eq_some_iff.1 hc
 have e:l=l.take k++l[k] :: l.drop (k+1):=by rw [← List.drop_eq_getElem_cons hk,List.take_append_drop]
 have hl:(l.take k).length=k:=by rw [List.length_take];omega
 constructor
 · unfold leadN
   have ht:∀ (a r:List UInt8) (d:UInt8),a.all blankB=true→blankB d=false→(a++d :: r).takeWhile blankB=a:=by
    intro a r d ha hd
    induction a with
    | nil=>simp [hd]
    | cons x a ih =>
      rw [List.all_cons,Bool.and_eq_true] at ha
      rw [List.cons_append,List.takeWhile_cons,ha.1]
      simp only [if_true]
      rw [ih ha.2]
   rw [e,ht _ _ _ h hn,hl]
 · unfold inkB
   rw [List.any_eq_true]
   exact ⟨l[k],List.getElem_mem hk,by simp [hn]⟩
theorem Ds {l:List UInt8} (h:l.all blankB=true):leadN l=l.length∧inkB l=false:=by
 constructor
 · unfold leadN
   have ht:∀ (a:List UInt8),a.all blankB=true→a.takeWhile blankB=a:=by
    intro a ha
    induction a with
    | nil=>rfl
    | cons x a ih =>
      rw [List.all_cons,Bool.and_eq_true] at ha
      rw [List.takeWhile_cons,ha.1]
      simp only [if_true]
      rw [ih ha.2]
   rw [ht l h]
 · unfold inkB
   rw [List.any_eq_false]
   intro c hc
   have:=List.all_eq_true.1 h c hc
   simp [this]
theorem Zju (l:List UInt8):leadN l≤l.length:=by
 unfold leadN
 induction l with
 | nil=>simp
 | cons c t ih=>rw [List.takeWhile_cons];split<;>simp<;>omega
theorem Ew {s:ByteArray} {k:Nat} (hk:k < s.size) (h:(s.data.toList.take k).all blankB=true) (hc:blankB s[k]=true):(s.data.toList.take (k+1)).all blankB=true:=by
 have hl:s.data.toList.length=s.size:=Array.length_toList
 rw [List.take_add_one,List.getElem?_eq_getElem (by omega),List.all_append,h]
 simp only [Option.toList,List.all_cons,List.all_nil,Bool.and_true,Bool.true_and]
 exact hc
theorem Zke {a b:Int} {c d:Bool} {w:World} (h1:a=b) (h2:c=d):Ending.returned (.tuple #[.int .i64 a,.bool c])=.returned (.tuple #[.int .i64 b,.bool d])∧w=w:=by subst h1 h2;exact ⟨rfl,rfl⟩
theorem Rr (s:ByteArray) (w:World) (hs:s.size≤100000):Calls Tryz.prog 294 #[.string s] w fun e w'=>e=.returned (.tuple #[.int .i64 (leadN s.data.toList),.bool (inkB s.data.toList)])∧w=w':=by
 have HL:Hid (s.data.toList.length=s.size):=Hd Array.length_toList
 go_enter Tryz.func294,Tryz.ntmps294
 go_wp2
 go_loopg [4] s.size (fun g i wx=>∃ k:Nat,k+g=s.size∧i=.int .i64 k∧Aside ((s.data.toList.take k).all blankB=true)∧w=wx)
 case atStart=>exact ⟨0,by omega,rfl,Aside.intro (by simp),rfl⟩
 case round =>
  obtain ⟨k,hk,rfl,H,rfl⟩:=hrel
  cases gk with
  | zero =>
    obtain rfl:k=s.size:=by omega
    have he:=H.out
    rw [List.take_of_length_le (by rw [HL.out];omega)] at he
    have h1:=Hd (Ds he).1
    have h2:=Hd (Ds he).2
    clear he H
    go_wp2
    go_ret2
    exact Zke (by rw [h1.out,HL.out]) h2.out.symm
  | succ g =>
    have hlt:k < s.size:=by omega
    have hlt':(k:Int) < (s.size:Int):=by omega
    by_cases c9:s[k]=9
    · have n9:((s[k].toNat:Int) != 9)=false:=by rw [c9];rfl
      have hT:=Hd (Ew hlt H.out (by rw [c9];rfl))
      clear H c9
      go_wp2
      go_roundg g
      case measure=>omega
      case rel=>exact ⟨k+1,by omega,by go_num,Aside.intro hT.out,rfl⟩
    by_cases c32:s[k]=32
    · have n9:((s[k].toNat:Int) != 9)=true:=by rw [c32];rfl
      have n32:((s[k].toNat:Int) != 32)=false:=by rw [c32];rfl
      have hT:=Hd (Ew hlt H.out (by rw [c32];rfl))
      clear H c9 c32
      go_wp2
      go_roundg g
      case measure=>omega
      case rel=>exact ⟨k+1,by omega,by go_num,Aside.intro hT.out,rfl⟩
    · have n9:((s[k].toNat:Int) != 9)=true:=Nx (Lc c9)
      have n32:((s[k].toNat:Int) != 32)=true:=Nx (Lc c32)
      have hx:=Zqp (l:=s.data.toList) (k:=k) (c:=s[k]) H.out (by rw [List.getElem?_eq_getElem (by rw [HL.out];exact hlt)];rfl) (by simp [blankB,c9,c32])
      have h1:=Hd hx.1
      have h2:=Hd hx.2
      clear H c9 c32 hx
      go_wp2
      go_ret2
      exact Zke (by rw [h1.out]) h2.out.symm
theorem N9 (s:ByteArray) (w:World) (hs:s.size≤100000):Calls Tryz.prog 271 #[.string s] w fun e w'=>e=.returned (.bool (!inkB s.data.toList))∧w=w':=by
 have H:=Hd (Rr s w hs)
 go_enter Tryz.func271,Tryz.ntmps271
 go_wp2_with fail
 refine H.out.mono ?_
 rintro e w1 ⟨rfl,rfl⟩
 go_wp2_with fail
 go_ret
 exact ⟨rfl,rfl⟩
def Zh (xs:List ByteArray):List (List UInt8):=xs.map fun x=>x.data.toList
def Ug (xs:List ByteArray) (k:Nat):Int:=(((Zh xs).drop 1).take (k - 1)).foldl stepI (-1)
theorem Mz {xs:List ByteArray} {k:Nat} {x:ByteArray} (hk:1≤k) (hx:xs[k]? = some x):Ug xs (k+1)=stepI (Ug xs k) x.data.toList:=by
 unfold Ug
 rw [show k+1 - 1=(k - 1)+1 from by omega,List.take_add_one,List.getElem?_drop,show 1+(k - 1)=k from by omega]
 unfold Zh
 rw [List.getElem?_map,hx]
 simp [List.foldl_append]
theorem Cs {xs:List ByteArray} {k:Nat} (hk:xs.length≤k):Ug xs k=indentL (Zh xs):=by
 unfold Ug indentL
 rw [List.take_of_length_le (by simp [Zh];omega)]
theorem Dj (xs:List ByteArray) (hx:∀ x ∈ xs,x.size≤100000):∀ k,-1≤Ug xs k∧Ug xs k≤100000:=by
 have hf:∀ (ls:List (List UInt8)) (o:Int),(∀ l ∈ ls,l.length≤100000)→-1≤o→o≤100000→-1≤ls.foldl stepI o∧ls.foldl stepI o≤100000:=by
  intro ls
  induction ls with
  | nil=>intro o _ h1 h2;exact ⟨h1,h2⟩
  | cons l ls ih =>
    intro o hl h1 h2
    rw [List.foldl_cons]
    have:=Zju l
    have hll:=hl l (by simp)
    refine ih _ (fun l' hl'=>hl l' (by simp [hl'])) ?_ ?_
    · unfold stepI;split<;>omega
    · unfold stepI;split<;>omega
 intro k
 refine hf _ _ (fun l hl=>?_) (by omega) (by omega)
 have h1:=List.mem_of_mem_take hl
 have h2:=List.mem_of_mem_drop h1
 obtain ⟨x,hx',rfl⟩:=List.mem_map.1 h2
 have:=hx x hx'
 rw [Lib.size_eq] at this
 exact this
theorem Zqw (A:Option Addr) (n c:Nat) (xs:List ByteArray) (w:World) (hn:n≤100000) (hz:Fb w w.heap.size A n xs) (hx:∀ x ∈ xs,x.size≤100000) :
  Calls Tryz.prog 270 #[.slice A n c] w fun e w'=>e=.returned (.int .i64 (indentL (Zh xs)))∧w=w':=by
 have HZ:=Hd hz
 have HX:=Hd hx
 clear hz hx
 go_enter Tryz.func270,Tryz.ntmps270
 go_wp2
 go_loopg [3,4] n (fun g out i wx=>∃ k:Nat,1≤k∧(n < k+g+1)∧i=.int .i64 k∧out=.int .i64 (Ug xs k)∧k≤n+1∧w=wx)
 case atStart=>exact ⟨1,by omega,by omega,rfl,by simp [Ug],by omega,rfl⟩
 case round =>
  obtain ⟨k,hk1,hkg,rfl,rfl,hkn,rfl⟩:=hrel
  have hbd:=Dj xs HX.out k
  have hbd1:=hbd.1
  have hbd2:=hbd.2
  clear hbd
  by_cases hlt:k < n
  · have hlt':(k:Int) < (n:Int):=by omega
    obtain ⟨x,hxk⟩:∃ x,xs[k]? = some x:=⟨_,List.getElem?_eq_getElem (by rw [HZ.out.1];omega)⟩
    obtain ⟨b,o,rfl,hblt,hcell⟩:=HZ.out.2 k x hxk
    have hs:=Hd (Mz hk1 hxk)
    have HL:=Hd (Rr x w (HX.out x (List.mem_of_getElem? hxk)))
    have hle:=Zju x.data.toList
    have hxs:x.size≤100000:=HX.out x (List.mem_of_getElem? hxk)
    rw [← Lib.size_eq] at hle
    clear hxk
    obtain ⟨g',rfl⟩:∃ g',gk=g'+1:=⟨gk - 1,by omega⟩
    generalize Ug xs k=v at *
    generalize hln:leadN x.data.toList=m at *
    have HM:=Hd hln
    clear hln
    cases hi:inkB x.data.toList
    · have hst:Hid (Ug xs (k+1)=v):=Hd (by rw [hs.out];unfold stepI;rw [if_neg (by rw [hi];simp)])
      have HI:=Hd hi
      clear hi
      go_wp2_with fail
      refine HL.out.mono ?_
      rintro e w1 ⟨rfl,rfl⟩
      rw [HI.out]
      go_wp2_with fail
      go_roundg g'
      case measure=>omega
      case rel=>exact ⟨k+1,by omega,by omega,by go_num,by rw [hst.out],by omega,rfl⟩
    · have HI:=Hd hi
      by_cases hv:v < 0
      · have hst:Hid (Ug xs (k+1)=(m:Int)):=Hd (by rw [hs.out];unfold stepI;rw [HM.out,if_pos ⟨hi,.inl hv⟩])
        clear hi
        go_wp2_with fail
        refine HL.out.mono ?_
        rintro e w1 ⟨rfl,rfl⟩
        rw [HI.out]
        go_wp2_with fail
        go_roundg g'
        case measure=>omega
        case rel=>exact ⟨k+1,by omega,by omega,by go_num,by rw [hst.out],by omega,rfl⟩
      · have e1:decide (v < 0)=false:=by simp;omega
        by_cases hmv:(m:Int) < v
        · have hst:Hid (Ug xs (k+1)=(m:Int)):=Hd (by rw [hs.out];unfold stepI;rw [HM.out,if_pos ⟨hi,.inr hmv⟩])
          clear hi
          go_wp2_with fail
          refine HL.out.mono ?_
          rintro e w1 ⟨rfl,rfl⟩
          rw [HI.out]
          go_wp2_with fail
          go_roundg g'
          case measure=>omega
          case rel=>exact ⟨k+1,by omega,by omega,by go_num,by rw [hst.out],by omega,rfl⟩
        · have e2:decide ((m:Int) < v)=false:=by simp;omega
          have hst:Hid (Ug xs (k+1)=v):=Hd (by rw [hs.out];unfold stepI;rw [HM.out,if_neg (by rintro ⟨_,h|h⟩<;>omega)])
          clear hi
          go_wp2_with fail
          refine HL.out.mono ?_
          rintro e w1 ⟨rfl,rfl⟩
          rw [HI.out]
          go_wp2_with fail
          go_roundg g'
          case measure=>omega
          case rel=>exact ⟨k+1,by omega,by omega,by go_num,by rw [hst.out],by omega,rfl⟩
  · have hfin:=Hd (Cs (xs:=xs) (k:=k) (by rw [HZ.out.1];omega))
    have hlt' : ¬ (k:Int) < (n:Int):=by omega
    go_wp2
    go_ret
    exact ⟨Yaj hfin.out,rfl⟩
theorem Ol (l:List UInt8):Zh (Zx l)=linesL l:=by
 unfold Zh Zx
 rw [List.map_map]
 have:((fun x:ByteArray=>x.data.toList) ∘ fun x:List UInt8=>(⟨x.toArray⟩:ByteArray))=id:=by funext x;simp
 rw [this,List.map_id]
theorem Rq {w:World} {base n:Nat} {A:Option Addr} {cap:Nat} {xs:List Value} (h:w.ownsRow base 9 1 (.slice A n cap) n xs) (hn:0 < n):∃ g,A=some ⟨g,0,none⟩∧base≤g∧g < w.heap.size∧n≤cap:=by
 rcases h.2 with ⟨_,h0⟩|⟨g,c,cur,hv,hb,_,hnc,_⟩
 · omega
 · have hv':=hv
   injection hv' with h1 h2 h3
   subst h1
   exact ⟨g,rfl,hb,(h.lt g rfl).2,by omega⟩
theorem Zy0 {l t:List UInt8} (h:afterL l=some t):(firstL l).length+1+t.length≤l.length:=by
 have e:(firstL l).length+(l.dropWhile fun c=>!eolB c).length=l.length:=by
  unfold firstL
  rw [← List.length_append,List.takeWhile_append_dropWhile]
 have : t.length < (l.dropWhile fun c=>!eolB c).length:=by
  unfold afterL at h
  generalize l.dropWhile (fun c=>!eolB c)=r at *
  split at h
  · cases h
  · split at h
    · split at h
      · split at h
        · cases h;simp only [List.length_cons];omega
        · cases h;simp only [List.length_cons];omega
      · cases h;simp
    · cases h;simp
 omega
theorem Nm:∀ (n:Nat) (l:List UInt8),l.length < n→(linesL l).length≤l.length+1∧(∀ x ∈ linesL l,x.length≤l.length)∧(joinTen (linesL l)).length≤l.length:=by
 intro n
 induction n with
 | zero=>intro l h;omega
 | succ n ih =>
   intro l hl
   have hf:(firstL l).length≤l.length:=by
     unfold firstL
     have e:(l.takeWhile fun c=>!eolB c).length+(l.dropWhile fun c=>!eolB c).length=l.length:=by rw [← List.length_append,List.takeWhile_append_dropWhile]
     omega
   rw [linesL_eq]
   cases ha:afterL l with
   | none =>
     refine ⟨by simp,fun x hx=>?_,by simpa [joinTen] using hf⟩
     simp only [List.mem_cons,List.not_mem_nil,or_false] at hx
     rw [hx];exact hf
   | some t =>
     have hr:=Zy0 ha
     obtain ⟨h1,h2,h3⟩:=ih t (by omega)
     refine ⟨by simp only [List.length_cons];omega,fun x hx=>?_,?_⟩
     · simp only [List.mem_cons] at hx
       rcases hx with hx|hx
       · rw [hx];exact hf
       · have:=h2 x hx;omega
     · show (joinTen (firstL l :: linesL t)).length≤_
       cases hlt:linesL t with
       | nil=>exact absurd hlt (Bw t)
       | cons y r =>
         rw [hlt] at h3
         show (firstL l++10 :: joinTen (y :: r)).length≤_
         rw [List.length_append,List.length_cons]
         omega
def Zky (m:Nat) (x:ByteArray):ByteArray:=x.extract (min m x.size) x.size
def Wk (m k:Nat) (xs:List ByteArray):List ByteArray:=xs.mapIdx fun i x=>if 1≤i∧i < k then Zky m x else x
theorem Uo {m k j:Nat} {xs:List ByteArray} : (Wk m k xs)[j]? = (xs[j]?).map fun x=>if 1≤j∧j < k then Zky m x else x:=by
 unfold Wk;rw [List.getElem?_mapIdx]
theorem N1 (m:Nat) (xs:List ByteArray):Wk m 1 xs=xs:=by
 apply List.ext_getElem?
 intro j
 rw [Uo]
 cases xs[j]? with
 | none=>rfl
 | some x=>simp only [Option.map_some];rw [if_neg (by omega)]
theorem Zk0 {m k:Nat} {xs:List ByteArray} {x:ByteArray} (hk:1≤k) (hx:xs[k]? = some x):(Wk m k xs).set k (Zky m x)=Wk m (k+1) xs:=by
 apply List.ext_getElem?
 intro j
 rw [List.getElem?_set,Uo,Uo]
 by_cases hj:k=j
 · subst hj
   rw [if_pos rfl,hx]
   have:k < (Wk m k xs).length:=by
     have:=(List.getElem?_eq_some_iff.1 hx).1
     unfold Wk;rw [List.length_mapIdx];exact this
   rw [if_pos this]
   simp only [Option.map_some]
   rw [if_pos ⟨hk,by omega⟩]
 · rw [if_neg hj]
   cases xs[j]? with
   | none=>rfl
   | some y =>
     simp only [Option.map_some]
     by_cases h:1≤j∧j < k
     · rw [if_pos h,if_pos ⟨h.1,by omega⟩]
     · rw [if_neg h,if_neg (by omega)]
theorem M6 (m k:Nat) (xs:List ByteArray):(Wk m k xs).length=xs.length:=by unfold Wk;simp
theorem Zvq (m:Nat) (x:ByteArray):(Zky m x).data.toList=x.data.toList.drop m:=by
 unfold Zky
 rw [Ub,List.take_of_length_le (by rw [List.length_drop,← Lib.size_eq];omega)]
 by_cases h:m≤x.size
 · rw [Nat.min_eq_left h]
 · rw [Nat.min_eq_right (by omega),List.drop_eq_nil_of_le (by rw [← Lib.size_eq];omega),List.drop_eq_nil_of_le (by rw [← Lib.size_eq];omega)]
theorem P7 (m:Nat) (xs:List ByteArray):Zh (Wk m xs.length xs)=cutL m (Zh xs):=by
 apply List.ext_getElem?
 intro j
 unfold Zh
 rw [List.getElem?_map,Uo]
 cases xs with
 | nil=>simp [cutL]
 | cons y t =>
   cases j with
   | zero=>simp [cutL]
   | succ j =>
     simp only [List.getElem?_cons_succ,List.map_cons,cutL,List.map_map,List.getElem?_map,List.length_cons,Option.map_map]
     cases h:t[j]? with
     | none=>rfl
     | some z =>
       have:=(List.getElem?_eq_some_iff.1 h).1
       simp only [Option.map_some,Function.comp]
       rw [if_pos (by omega),Zvq]
theorem D8 {w:World} {base n:Nat} {A:Option Addr} {cap:Nat} {xs:List ByteArray} (h:w.ownsRow base 9 1 (.slice A n cap) n (xs.map Value.string)):Fb w w.heap.size A n xs:=by
 have hl:xs.length=n:=by have:=h.1;rw [List.length_map] at this;omega
 subst hl
 exact (C5 h).2
theorem La (p:List UInt8→Bool):∀ (a r:List (List UInt8)),a.all p=true→(a++r).dropWhile p=r.dropWhile p:=by
 intro a r h
 induction a with
 | nil=>rfl
 | cons x a ih =>
   rw [List.all_cons,Bool.and_eq_true] at h
   rw [List.cons_append,List.dropWhile_cons,h.1]
   simp only [if_true]
   exact ih h.2
theorem S6 {ls:List (List UInt8)} {f:Nat} (h:(ls.take f).all (fun l=>!inkB l)=true):ls.length≤f→Iv ls=[]:=by
 intro hf
 rw [List.take_of_length_le hf] at h
 have:=La (fun l=>!inkB l) ls [] h
 rw [List.append_nil] at this
 exact this
theorem Nk {ls:List (List UInt8)} {f:Nat} {x:List UInt8} (h:(ls.take f).all (fun l=>!inkB l)=true) (hx:ls[f]? = some x) (hi:inkB x=true):Iv ls=ls.drop f:=by
 obtain ⟨hf,rfl⟩:=List.getElem?_eq_some_iff.1 hx
 unfold Iv
 conv=>lhs;rw [← List.take_append_drop f ls]
 rw [La _ _ _ h,List.drop_eq_getElem_cons hf,List.dropWhile_cons]
 simp [hi]
theorem N8 {ls:List (List UInt8)} {f:Nat} {x:List UInt8} (h:(ls.take f).all (fun l=>!inkB l)=true) (hx:ls[f]? = some x) (hi:inkB x=false):(ls.take (f+1)).all (fun l=>!inkB l)=true:=by
 rw [List.take_add_one,hx,List.all_append,h]
 simp [hi]
theorem N2 {ls:List (List UInt8)} {u:Nat} {x:List UInt8} (h:(ls.drop (u+1)).all (fun l=>!inkB l)=true) (hx:ls[u]? = some x) (hi:inkB x=false):(ls.drop u).all (fun l=>!inkB l)=true:=by
 obtain ⟨hf,rfl⟩:=List.getElem?_eq_some_iff.1 hx
 rw [List.drop_eq_getElem_cons hf,List.all_cons,h]
 simp [hi]
theorem Ycy {ls a b:List (List UInt8)} {f:Nat} (hF:Iv ls=ls.drop f) (he:ls.drop f=a++b) (hb:b.all (fun l=>!inkB l)=true) (ha:a.reverse.dropWhile (fun l=>!inkB l)=a.reverse):O0 ls=a:=by
 unfold O0
 rw [hF,he,List.reverse_append]
 unfold Iv
 rw [La _ _ _ (by rw [List.all_reverse];exact hb),ha,List.reverse_reverse]
theorem Zx2 {ls:List (List UInt8)} {f:Nat} (hF:Iv ls=ls.drop f) (h:(ls.drop f).all (fun l=>!inkB l)=true):O0 ls=(ls.drop f).take (f - f):=by
 rw [Ycy (a:=[]) hF rfl h rfl];simp
theorem Rx {ls:List (List UInt8)} {f u:Nat} {x:List UInt8} (hF:Iv ls=ls.drop f) (hf:f≤u) (h:(ls.drop (u+1)).all (fun l=>!inkB l)=true) (hx:ls[u]? = some x) (hi:inkB x=true):O0 ls=(ls.drop f).take (u+1 - f):=by
 obtain ⟨hu,rfl⟩:=List.getElem?_eq_some_iff.1 hx
 refine Ycy (b:=ls.drop (u+1)) hF ?_ h ?_
 · have:=(List.take_append_drop (u+1 - f) (ls.drop f)).symm
   rw [List.drop_drop,show f+(u+1 - f)=u+1 from by omega] at this
   exact this
 · rw [show u+1 - f=(u - f)+1 from by omega,List.take_add_one,List.getElem?_drop,show f+(u - f)=u from by omega,List.getElem?_eq_getElem hu]
   simp [hi]
theorem Yc4:∀ (ts:List (List UInt8)) (x:List UInt8),ts ≠ []→joinTen (ts++[x])=joinTen ts++10 :: x:=by
 intro ts
 induction ts with
 | nil=>intro x h;exact absurd rfl h
 | cons y t ih =>
   intro x _
   cases t with
   | nil=>rfl
   | cons z t =>
     show y++10 :: joinTen (z :: t++[x])=(y++10 :: joinTen (z :: t))++10 :: x
     rw [ih x (by simp)]
     simp
theorem rblock_any (s:ByteArray) (w:World) (hs:s.size≤9000) :
  Calls Tryz.prog 235 #[.string s] w fun e w'=>e=.returned (.string ⟨(valueL s.data.toList).toArray⟩)∧Below w.heap.size w w':=by
 have HR:=Hd (Zy2 s w hs)
 go_enter Tryz.func235,Tryz.ntmps235
 go_wp2_with fail
 refine HR.out.mono ?_
 rintro e w1 ⟨A,cap,rfl,hown,hb⟩
 have hroom:=Nm (s.data.toList.length+1) s.data.toList (by omega)
 rw [← Lib.size_eq] at hroom
 have hxs:∀ x ∈ Zx s.data.toList,x.size≤100000:=by
  intro x hx
  obtain ⟨l,hl,rfl⟩:=List.mem_map.1 hx
  have:=hroom.2.1 l hl
  show l.length≤_
  omega
 have hN:(Zx s.data.toList).length≤9001:=by unfold Zx;rw [List.length_map];omega
 have hN1:1≤(Zx s.data.toList).length:=by
  unfold Zx
  rw [List.length_map]
  have:=Bw s.data.toList
  cases h:linesL s.data.toList with
  | nil=>exact absurd h this
  | cons _ _=>simp
 clear hroom
 obtain ⟨g0,rfl,hbg,hgl,hcap⟩:=Rq hown (by omega)
 have HI:=Hd (Zqw (some ⟨g0,0,none⟩) (Zx s.data.toList).length cap (Zx s.data.toList) w1 (by omega) (C5 hown).2 hxs)
 have hib:=Dj _ hxs (Zx s.data.toList).length
 rw [Cs (Nat.le_refl _)] at hib
 have HVAL:Hid (valueL s.data.toList=joinTen (O0 (cutL (max (indentL (Zh (Zx s.data.toList))) 0).toNat (Zh (Zx s.data.toList))))):=Hd (by rw [Ol];rfl)
 generalize Zx s.data.toList=xs at *
 generalize hv:indentL (Zh xs)=v at *
 have hib1:=hib.1
 have hib2:=hib.2
 have HEX:=Hd hxs
 have HB:=Hd hb
 clear hxs hv hib hb HR
 go_upto_region 2 with (fail)
 go_cut [4] (fun n wx=>n=.int .i64 ((max v 0).toNat:Int)∧w1=wx)
 case first =>
  go_wp2_with fail
  refine HI.out.mono ?_
  rintro e w2 ⟨rfl,rfl⟩
  go_wp2_with fail
  all_goals go_meet
  all_goals exact ⟨congrArg (Value.int .i64) (by omega),rfl⟩
 case rest =>
  obtain ⟨rfl,rfl⟩:=hcut
  have hm1:(max v 0).toNat≤100000:=by omega
  clear HI hib1 hib2
  generalize (max v 0).toNat=m at *
  go_wp2_with fail
  go_loopg [5] (xs.length - 1) (fun g i wx=>∃ k:Nat,1≤k∧k+g=xs.length∧i=.int .i64 k∧wx.ownsRow w.heap.size 9 1 (.slice (some ⟨g0,0,none⟩) xs.length cap) xs.length ((Wk m k xs).map Value.string)∧Below w.heap.size w wx)
  case atStart=>exact ⟨1,by omega,by omega,rfl,by rw [N1];exact hown,HB.out⟩
  case round =>
   obtain ⟨k,hk1,hk,rfl,hown,hb⟩:=hrel
   cases gk with
   | succ g =>
     have hlt:k < xs.length:=by omega
     have hlt':(k:Int) < (xs.length:Int):=by omega
     have hk0:(0:Int)≤(k:Int):=by omega
     obtain ⟨x,hx⟩:∃ x,xs[k]? = some x:=⟨_,List.getElem?_eq_getElem hlt⟩
     have hget:(Wk m k xs)[k]? = some x:=by
      rw [Uo,hx]
      simp only [Option.map_some]
      rw [if_neg (by omega)]
     have c1:wr.cell? ⟨g0,k,none⟩=some (.string x):=by
      rw [World.ownsRow.cellAt hown k (by omega),List.getElem?_map,hget];rfl
     have f1:wr.frozen? ⟨g0,k,none⟩=false:=World.ownsRow.frozenAt hown k
     have hxs:x.size≤100000:=HEX.out x (List.mem_of_getElem? hx)
     have HO:=Hd (World.ownsRow.stored hown k (.string (Zky m x)))
     have HS:=Hd (Zk0 (m:=m) hk1 hx)
     have HB2:=Hd hb
     have hcx:Hid (Zky m x=x.extract (min m x.size) x.size):=Hd rfl
     clear hown hb hx hget HB
     obtain ⟨K,hKd⟩:∃ K,min m x.size=K:=⟨_,rfl⟩
     have hK:(if x.size < m then (x.size:Int) else (m:Int))=(K:Int):=by split<;>omega
     have hKs:(K:Int)≤(x.size:Int):=by omega
     have hK0:(0:Int)≤(K:Int):=by omega
     have HKd:=Hd hKd
     clear hKd
     go_wp2_with fail
     go_still_tail 15,(by kernel_rfl)
     change wpList _ _ _ _ _ wr.drew
     go_wp2
     go_roundg g
     case measure=>omega
     case rel =>
      refine ⟨k+1,by omega,by omega,by go_num,?_,(HB2.out.drew).setCell hbg _⟩
      have e:((Wk m k xs).map Value.string).set k (.string (Zky m x))=(Wk m (k+1) xs).map Value.string:=by rw [← HS.out,List.map_set]
      rw [← e,hcx.out,HKd.out]
      rw [hcx.out,HKd.out] at HO
      exact HO.out.1.drew
   | zero =>
     obtain rfl:k=xs.length:=by omega
     have hyl:(Wk m xs.length xs).length=xs.length:=M6 _ _ _
     have hyb:=P7 m xs
     have hys:∀ y ∈ Wk m xs.length xs,y.size≤100000:=by
      intro y hy
      obtain ⟨j,hj⟩:=List.mem_iff_getElem?.1 hy
      rw [Uo] at hj
      obtain ⟨x,hx,rfl⟩:=Option.map_eq_some_iff.1 hj
      have:=HEX.out x (List.mem_of_getElem? hx)
      split
      · unfold Zky;rw [ByteArray.size_extract];omega
      · exact this
     have hval:Hid (valueL s.data.toList=joinTen (O0 (Zh (Wk m xs.length xs)))):=Hd (by rw [HVAL.out,hyb])
     generalize Wk m xs.length xs=ys at *
     have HS:=Hd (D8 hown)
     have HYS:=Hd hys
     have HYL:=Hd hyl
     have HBB:=Hd hb
     clear hown hyb hys hyl hb HVAL HB
     generalize xs.length=N at *
     clear HEX
     go_upto_block 2 with (fail)
     go_cut [6] (fun fr wx=>∃ f:Nat,f≤N∧fr=.int .i64 f∧Aside (Iv (Zh ys)=(Zh ys).drop f)∧wr=wx)
     case first =>
      go_wp2_with fail
      go_loopg [6] N (fun g fr wx=>∃ f:Nat,f+g=N∧fr=.int .i64 f∧Aside (((Zh ys).take f).all (fun l=>!inkB l)=true)∧wr=wx)
      case atStart=>exact ⟨0,by omega,rfl,Aside.intro (by simp),rfl⟩
      case round =>
        obtain ⟨f,hf,rfl,H,rfl⟩:=hrel
        cases gk with
        | zero =>
          obtain rfl:f=N:=by omega
          have hT:=Hd (S6 H.out (by unfold Zh;rw [List.length_map,HYL.out];omega))
          clear H
          go_wp2_with fail
          go_meet
          exact ⟨_,by omega,rfl,Aside.intro (by rw [hT.out,List.drop_eq_nil_of_le (by unfold Zh;rw [List.length_map,HYL.out];omega)]),rfl⟩
        | succ g =>
          have hlt:f < N:=by omega
          have hlt':(f:Int) < (N:Int):=by omega
          obtain ⟨y,hy⟩:∃ y,ys[f]? = some y:=⟨_,List.getElem?_eq_getElem (by rw [HYL.out];omega)⟩
          obtain ⟨b,o,e,_,hcell⟩:=HS.out.2 f y hy
          injection e with e
          injection e with e1 e2
          subst e1 e2
          rw [Nat.zero_add] at hcell
          have HBk:=Hd (N9 y wr (HYS.out y (List.mem_of_getElem? hy)))
          have hyb:(Zh ys)[f]? = some y.data.toList:=by unfold Zh;rw [List.getElem?_map,hy];rfl
          cases hi:inkB y.data.toList
          · have hT:=Hd (N8 H.out hyb hi)
            have HIk:=Hd hi
            clear H hy hyb hi
            go_wp2_with fail
            refine HBk.out.mono ?_
            rintro e w2 ⟨rfl,rfl⟩
            rw [HIk.out]
            go_wp2_with fail
            go_roundg g
            case measure=>omega
            case rel=>exact ⟨f+1,by omega,by go_num,Aside.intro hT.out,rfl⟩
          · have hT:=Hd (Nk H.out hyb hi)
            have HIk:=Hd hi
            clear H hy hyb hi
            go_wp2_with fail
            refine HBk.out.mono ?_
            rintro e w2 ⟨rfl,rfl⟩
            rw [HIk.out]
            go_wp2_with fail
            go_meet
            exact ⟨f,by omega,rfl,Aside.intro hT.out,rfl⟩
     case rest =>
      obtain ⟨f,hfN,rfl,HF,rfl⟩:=hcut
      go_upto_block 4 with (fail)
      go_cut [7] (fun tv wx=>∃ t:Nat,f≤t∧t≤N∧tv=.int .i64 t∧Aside (O0 (Zh ys)=((Zh ys).drop f).take (t - f))∧wr=wx)
      case first =>
        go_wp2_with fail
        go_loopg [7] (N - f) (fun g tv wx=>∃ t:Nat,f≤t∧t≤f+g∧t≤N∧tv=.int .i64 t∧Aside (((Zh ys).drop t).all (fun l=>!inkB l)=true)∧wr=wx)
        case atStart=>exact ⟨N,by omega,by omega,by omega,rfl,Aside.intro (by rw [List.drop_eq_nil_of_le (by unfold Zh;rw [List.length_map,HYL.out];omega)];rfl),rfl⟩
        case round =>
          obtain ⟨t,hft,htg,htN,rfl,H,rfl⟩:=hrel
          by_cases hte:t=f
          · subst hte
            have hT:=Hd (Zx2 HF.out H.out)
            clear H
            go_wp2_with fail
            go_meet
            exact ⟨t,by omega,by omega,rfl,Aside.intro hT.out,rfl⟩
          · have hft1:f < t:=by omega
            obtain ⟨g,rfl⟩:∃ g,gk=g+1:=⟨gk - 1,by omega⟩
            obtain ⟨u,rfl⟩:∃ u,t=u+1:=⟨t - 1,by omega⟩
            have hfu:(f:Int) < (u:Int)+1:=by omega
            have hu0:(0:Int)≤(u:Int):=by omega
            have hu1:(u:Int) < (N:Int):=by omega
            obtain ⟨y,hy⟩:∃ y,ys[u]? = some y:=⟨_,List.getElem?_eq_getElem (by rw [HYL.out];omega)⟩
            obtain ⟨b,o,e,_,hcell⟩:=HS.out.2 u y hy
            injection e with e
            injection e with e1 e2
            subst e1 e2
            rw [Nat.zero_add] at hcell
            have HBk:=Hd (N9 y wr (HYS.out y (List.mem_of_getElem? hy)))
            have hyb:(Zh ys)[u]? = some y.data.toList:=by unfold Zh;rw [List.getElem?_map,hy];rfl
            cases hi:inkB y.data.toList
            · have hT:=Hd (N2 H.out hyb hi)
              have HIk:=Hd hi
              clear H hy hyb hi hte
              go_wp2_with fail
              refine HBk.out.mono ?_
              rintro e w2 ⟨rfl,rfl⟩
              rw [HIk.out]
              go_wp2_with fail
              go_roundg g
              case measure=>omega
              case rel=>exact ⟨u,by omega,by omega,by omega,by go_num,Aside.intro hT.out,rfl⟩
            · have hT:=Hd (Rx HF.out (by omega) H.out hyb hi)
              have HIk:=Hd hi
              clear H hy hyb hi hte
              go_wp2_with fail
              refine HBk.out.mono ?_
              rintro e w2 ⟨rfl,rfl⟩
              rw [HIk.out]
              go_wp2_with fail
              go_meet
              exact ⟨u+1,by omega,by omega,by go_num,Aside.intro hT.out,rfl⟩
      case rest =>
        obtain ⟨t,hft,htN,rfl,HT,rfl⟩:=hcut
        go_wp2_with fail
        go_loopg [8,9] (t - f) (fun g out i wx=>∃ (k:Nat) (S:ByteArray),f≤k∧k+g=t∧i=.int .i64 k∧out=.string S∧S.size≤200000*(k - f)∧Aside (S.data.toList=joinTen (((Zh ys).drop f).take (k - f)))∧wr=wx)
        case atStart=>exact ⟨f,⟨#[]⟩,by omega,by omega,rfl,rfl,Nat.zero_le _,Aside.intro (by simp [joinTen]),rfl⟩
        case round =>
          obtain ⟨k,S,hfk,hkt,rfl,rfl,hSz,H,rfl⟩:=hrel
          cases gk with
          | zero =>
            obtain rfl:k=t:=by omega
            have hT:Hid ((⟨(valueL s.data.toList).toArray⟩:ByteArray)=S):=Hd (Gz (by rw [hval.out,HT.out];exact H.out))
            clear H
            go_wp2_with fail
            go_ret
            exact ⟨Zqd hT.out.symm,HBB.out⟩
          | succ g =>
            have hlt:k < t:=by omega
            have hlt':(k:Int) < (t:Int):=by omega
            have hk0:(0:Int)≤(k:Int):=by omega
            have hk1:(k:Int) < (N:Int):=by omega
            obtain ⟨y,hy⟩:∃ y,ys[k]? = some y:=⟨_,List.getElem?_eq_getElem (by rw [HYL.out];omega)⟩
            obtain ⟨b,o,e,_,hcell⟩:=HS.out.2 k y hy
            injection e with e
            injection e with e1 e2
            subst e1 e2
            rw [Nat.zero_add] at hcell
            have hyb:(Zh ys)[k]? = some y.data.toList:=by unfold Zh;rw [List.getElem?_map,hy];rfl
            have htk:((Zh ys).drop f).take (k+1 - f)=((Zh ys).drop f).take (k - f)++[y.data.toList]:=by
              rw [show k+1 - f=(k - f)+1 from by omega,List.take_add_one,List.getElem?_drop,show f+(k - f)=k from by omega,hyb]
              rfl
            by_cases hkf:f < k
            · have hkf':(f:Int) < (k:Int):=by omega
              have hT:Hid ((S ++ ⟨#[10]⟩++y).data.toList=joinTen (((Zh ys).drop f).take (k+1 - f))):=Hd (by
               rw [htk,Yc4 _ _ (by
                intro e
                have:=congrArg List.length e
                rw [List.length_take,List.length_drop] at this
                have hl:(Zh ys).length=N:=by unfold Zh;rw [List.length_map,HYL.out]
                rw [hl] at this
                simp at this
                omega),← H.out]
               simp)
              have hys1:y.size≤100000:=HYS.out y (List.mem_of_getElem? hy)
              have hS1:(S ++ ⟨#[10]⟩).size=S.size+1:=ByteArray.size_append
              have hS2:Hid ((S ++ ⟨#[10]⟩++y).size≤200000*(k+1 - f)):=Hd (by rw [ByteArray.size_append,hS1];omega)
              clear H hy hyb htk
              go_wp2_with fail
              go_roundg g
              case measure=>omega
              case rel=>exact ⟨k+1,_,by omega,by omega,by go_num,rfl,hS2.out,Aside.intro hT.out,rfl⟩
            · obtain rfl:k=f:=by omega
              have hT:Hid ((S++y).data.toList=joinTen (((Zh ys).drop k).take (k+1 - k))):=Hd (by
               have hS:=H.out
               rw [htk]
               simp only [Nat.sub_self,List.take_zero,List.nil_append] at hS ⊢
               simp [hS,joinTen])
              have hys1:y.size≤100000:=HYS.out y (List.mem_of_getElem? hy)
              have hS2:Hid ((S++y).size≤200000*(k+1 - k)):=Hd (by rw [ByteArray.size_append];omega)
              clear H hy hyb htk
              go_wp2_with fail
              go_roundg g
              case measure=>omega
              case rel=>exact ⟨k+1,_,by omega,by omega,by go_num,rfl,hS2.out,Aside.intro hT.out,rfl⟩
end Go.Proofs.YtpkmbhnikilihaaGreatDoor.Blk
namespace Go.Proofs.YtpkmbhnikilihaaGreatDoor
open Go.ChangeShapes Go.WideShapes Go.ChangeAt Go.RowKit
mutual
inductive VT where
 | mk (k n:Int) (s:ByteArray) (l:VL) (m:VM)
inductive VL where
 | nil
 | cons (v:VT) (t:VL)
inductive VM where
 | nil
 | cons (name:ByteArray) (v:VT) (t:VM)
end
def VL.len:VL→Nat
 | .nil=>0
 | .cons _ t=>t.len+1
def VM.len:VM→Nat
 | .nil=>0
 | .cons _ _ t=>t.len+1
def VL.get:VL→Nat→Option VT
 | .nil,_=>none
 | .cons v _,0=>some v
 | .cons _ t,j+1=>t.get j
def VM.get:VM→Nat→Option (ByteArray × VT)
 | .nil,_=>none
 | .cons nm v _,0=>some (nm,v)
 | .cons _ _ t,j+1=>t.get j
theorem VL.get_lt:∀ {l:VL} {j:Nat},j < l.len→∃ v,l.get j=some v
 | .nil,_,h=>by simp [VL.len] at h
 | .cons v _,0,_=>⟨v,rfl⟩
 | .cons _ t,j+1,h=>VL.get_lt (l:=t) (by simp [VL.len] at h;omega)
theorem VM.get_lt:∀ {l:VM} {j:Nat},j < l.len→∃ v,l.get j=some v
 | .nil,_,h=>by simp [VM.len] at h
 | .cons nm v _,0,_=>⟨(nm,v),rfl⟩
 | .cons _ _ t,j+1,h=>VM.get_lt (l:=t) (by simp [VM.len] at h;omega)
def Ss (w:World) (b o:Nat) (c0 c1 c2 c3 c4:Value):Prop:=w.cell? ⟨b,o,none⟩=some c0∧w.cell? ⟨b,o+1,none⟩=some c1∧w.cell? ⟨b,o+2,none⟩=some c2∧w.cell? ⟨b,o+3,none⟩=some c3∧w.cell? ⟨b,o+4,none⟩=some c4
theorem Ss.below {w w':World} {B b o:Nat} {c0 c1 c2 c3 c4:Value} (h:Ss w b o c0 c1 c2 c3 c4) (hb:Below B w w') (hlt:b < B):Ss w' b o c0 c1 c2 c3 c4:=
 ⟨(hb.cell (p:=⟨b,_,none⟩) hlt).trans h.1,(hb.cell (p:=⟨b,_,none⟩) hlt).trans h.2.1,(hb.cell (p:=⟨b,_,none⟩) hlt).trans h.2.2.1,(hb.cell (p:=⟨b,_,none⟩) hlt).trans h.2.2.2.1,(hb.cell (p:=⟨b,_,none⟩) hlt).trans h.2.2.2.2⟩
mutual
def VAt (w:World) (B:Nat):VT→Value→Value→Value→Value→Value→Prop
 | .mk k n s l m,c0,c1,c2,c3,c4=>c0=.int .i64 k∧c1=.int .i64 n∧c2=.string s∧s.size≤9223372036854775807∧(∃ A c,c3=.slice A l.len c∧l.len≤9223372036854775807∧LAt w B l A 0)∧∃ A c,c4=.slice A m.len c∧m.len≤9223372036854775807∧MAt w B m A 0
def LAt (w:World) (B:Nat):VL→Option Addr→Nat→Prop
 | .nil,_,_=>True
 | .cons v t,A,j=>(∃ b o c0 c1 c2 c3 c4,A=some ⟨b,o,none⟩∧b < B∧Ss w b (o+j*5) c0 c1 c2 c3 c4∧VAt w B v c0 c1 c2 c3 c4)∧LAt w B t A (j+1)
def MAt (w:World) (B:Nat):VM→Option Addr→Nat→Prop
 | .nil,_,_=>True
 | .cons nm v t,A,j=>(∃ b o c0 c1 c2 c3 c4,A=some ⟨b,o,none⟩∧b < B∧w.cell? ⟨b,o+j*6,none⟩=some (.string nm)∧nm.size≤9223372036854775807∧Ss w b (o+j*6+1) c0 c1 c2 c3 c4∧VAt w B v c0 c1 c2 c3 c4)∧MAt w B t A (j+1)
end
mutual
theorem VAt.below {w w':World} {B:Nat} (hb:Below B w w'):∀ (v:VT) (c0 c1 c2 c3 c4:Value),VAt w B v c0 c1 c2 c3 c4→VAt w' B v c0 c1 c2 c3 c4
 | .mk k n s l m,c0,c1,c2,c3,c4,h=>by
   unfold VAt at h ⊢
   obtain ⟨h0,h1,h2,hs,⟨A,c,h3,g3,h4⟩,A',c',h5,g5,h6⟩:=h
   exact ⟨h0,h1,h2,hs,⟨A,c,h3,g3,LAt.below hb l A 0 h4⟩,A',c',h5,g5,MAt.below hb m A' 0 h6⟩
theorem LAt.below {w w':World} {B:Nat} (hb:Below B w w'):∀ (l:VL) (A:Option Addr) (j:Nat),LAt w B l A j→LAt w' B l A j
 | .nil,_,_,_=>by unfold LAt;trivial
 | .cons v t,A,j,h=>by
   unfold LAt at h ⊢
   obtain ⟨⟨b,o,c0,c1,c2,c3,c4,hA,hlt,hf,hv⟩,ht⟩:=h
   exact ⟨⟨b,o,c0,c1,c2,c3,c4,hA,hlt,hf.below hb hlt,VAt.below hb v _ _ _ _ _ hv⟩,LAt.below hb t A (j+1) ht⟩
theorem MAt.below {w w':World} {B:Nat} (hb:Below B w w'):∀ (l:VM) (A:Option Addr) (j:Nat),MAt w B l A j→MAt w' B l A j
 | .nil,_,_,_=>by unfold MAt;trivial
 | .cons nm v t,A,j,h=>by
   unfold MAt at h ⊢
   obtain ⟨⟨b,o,c0,c1,c2,c3,c4,hA,hlt,hn,hz,hf,hv⟩,ht⟩:=h
   exact ⟨⟨b,o,c0,c1,c2,c3,c4,hA,hlt,(hb.cell (p:=⟨b,_,none⟩) hlt).trans hn,hz,hf.below hb hlt,VAt.below hb v _ _ _ _ _ hv⟩,MAt.below hb t A (j+1) ht⟩
end
theorem LAt.at {w:World} {B:Nat} : ∀ {l:VL} {A:Option Addr} {i j:Nat} {v:VT},LAt w B l A i→l.get j=some v→∃ b o c0 c1 c2 c3 c4,A=some ⟨b,o,none⟩∧b < B∧Ss w b (o+(i+j)*5) c0 c1 c2 c3 c4∧VAt w B v c0 c1 c2 c3 c4
 | .nil,_,_,_,_,_,h=>by simp [VL.get] at h
 | .cons u t,A,i,0,v,h,hg=>by
   unfold LAt at h
   have:u=v:=by simpa [VL.get] using hg
   subst this
   exact h.1
 | .cons u t,A,i,j+1,v,h,hg=>by
   unfold LAt at h
   have:=LAt.at h.2 (j:=j) (v:=v) hg
   rwa [show i+1+j=i+(j+1) by omega] at this
theorem MAt.at {w:World} {B:Nat} : ∀ {l:VM} {A:Option Addr} {i j:Nat} {nm:ByteArray} {v:VT},MAt w B l A i→l.get j=some (nm,v)→∃ b o c0 c1 c2 c3 c4,A=some ⟨b,o,none⟩∧b < B∧w.cell? ⟨b,o+(i+j)*6,none⟩=some (.string nm)∧nm.size≤9223372036854775807∧Ss w b (o+(i+j)*6+1) c0 c1 c2 c3 c4∧VAt w B v c0 c1 c2 c3 c4
 | .nil,_,_,_,_,_,_,h=>by simp [VM.get] at h
 | .cons u x t,A,i,0,nm,v,h,hg=>by
   unfold MAt at h
   have:u=nm∧x=v:=by simpa [VM.get] using hg
   obtain ⟨rfl,rfl⟩:=this
   exact h.1
 | .cons u x t,A,i,j+1,nm,v,h,hg=>by
   unfold MAt at h
   have:=MAt.at h.2 (j:=j) (nm:=nm) (v:=v) hg
   rwa [show i+1+j=i+(j+1) by omega] at this
theorem Rk {b o i:Nat} : (⟨b,o,none⟩:Addr).add i=⟨b,o+i,none⟩:=by unfold Addr.add;split<;>simp_all
open Go.RowKit
mutual
def Mn:VT→Nat
 | .mk _ _ s l m=>1+s.size+Yck l+Zz8 m
def Yck:VL→Nat
 | .nil=>0
 | .cons v t=>Mn v+Yck t
def Zz8:VM→Nat
 | .nil=>0
 | .cons nm v t=>nm.size+Mn v+Zz8 t
end
theorem Sc:∀ {l:VL} {j:Nat} {v:VT},l.get j=some v→Mn v≤Yck l
 | .nil,_,_,h=>by simp [VL.get] at h
 | .cons u t,0,v,h=>by
   have:u=v:=by simpa [VL.get] using h
   subst this
   rw [Yck];omega
 | .cons u t,j+1,v,h=>by
   have:=Sc (l:=t) (j:=j) (v:=v) h
   rw [Yck];omega
theorem St:∀ {l:VM} {j:Nat} {nm:ByteArray} {v:VT},l.get j=some (nm,v)→nm.size+Mn v≤Zz8 l
 | .nil,_,_,_,h=>by simp [VM.get] at h
 | .cons x u t,0,nm,v,h=>by
   have:x=nm∧u=v:=by simpa [VM.get] using h
   obtain ⟨rfl,rfl⟩:=this
   rw [Zz8];omega
 | .cons x u t,j+1,nm,v,h=>by
   have:=St (l:=t) (j:=j) (nm:=nm) (v:=v) h
   rw [Zz8];omega
def KV (w:World) (c2 c3 c4:Value) (w':World):Prop:=w'.cell? ⟨w.heap.size,2,none⟩=some c2∧w'.cell? ⟨w.heap.size,3,none⟩=some c3∧w'.cell? ⟨w.heap.size,4,none⟩=some c4∧Below w.heap.size w w'∧w.heap.size < w'.heap.size
theorem KV.next {w W W':World} {c2 c3 c4:Value} (h:KV w c2 c3 c4 W) (hb:Below W.heap.size W W'):KV w c2 c3 c4 W':=by
 obtain ⟨h2,h3,h4,hB,hs⟩:=h
 exact ⟨(hb.cell (p:=⟨_,_,none⟩) hs).trans h2,(hb.cell (p:=⟨_,_,none⟩) hs).trans h3,(hb.cell (p:=⟨_,_,none⟩) hs).trans h4,hB.trans (hb.mono hB.size),Nat.lt_of_lt_of_le hs hb.size⟩
theorem KV.start (w:World) (c0 c1 c2 c3 c4:Value) (t:TypeId):KV w c2 c3 c4 (w.alloc (.cells #[c0,c1,c2,c3,c4] t)):=by
 refine ⟨?_,?_,?_,(Below.refl _ _).alloc (Nat.le_refl _) _,by simp⟩<;>(simp only [World.cell?];rw [show (w.alloc (.cells #[c0,c1,c2,c3,c4] t)).heap[w.heap.size]? = some (.cells #[c0,c1,c2,c3,c4] t) by show (w.heap.push _)[w.heap.size]? = _;simp];rfl)
def KM (w:World) (c2 c3 c4:Value) (b O:Nat) (nm d0 d1 d2 d3 d4:Value) (w':World):Prop:=w'.cell? ⟨w.heap.size,4,none⟩=some c4∧w'.cell? ⟨b,O,none⟩=some nm∧Ss w' b (O+1) d0 d1 d2 d3 d4∧KV w c2 c3 c4 w'
theorem KM.next {w W W':World} {c2 c3 c4:Value} {b O:Nat} {nm d0 d1 d2 d3 d4:Value} (h:KM w c2 c3 c4 b O nm d0 d1 d2 d3 d4 W) (hbw:b < w.heap.size) (hb:Below W.heap.size W W'):KM w c2 c3 c4 b O nm d0 d1 d2 d3 d4 W':=by
 obtain ⟨h4,hn,hF,hK⟩:=h
 have hl:b < W.heap.size:=Nat.lt_trans hbw hK.2.2.2.2
 have hK':=hK.next hb
 exact ⟨hK'.2.2.1,(hb.cell (p:=⟨b,_,none⟩) hl).trans hn,hF.below hb hl,hK'⟩
theorem KM.below {w W:World} {c2 c3 c4:Value} {b O:Nat} {nm d0 d1 d2 d3 d4:Value} (h:KM w c2 c3 c4 b O nm d0 d1 d2 d3 d4 W):Below w.heap.size w W:=h.2.2.2.2.2.2.1
theorem Zu {p:Prop} (h:p):Aside p:=h
theorem Rj {B:Nat} {a w:World} (h:Below B a w) (n:Nat):Below B a (w.drewN n):=⟨h.os,h.tape,h.output,h.size,h.block⟩
theorem VL.ext:∀ {l l':VL},l.len=l'.len→(∀ j,j < l.len→l.get j=l'.get j)→l=l'
 | .nil,.nil,_,_=>rfl
 | .nil,.cons _ _,h,_=>by simp [VL.len] at h
 | .cons _ _,.nil,h,_=>by simp [VL.len] at h
 | .cons u t,.cons u' t',h,hg=>by
   have h0:u=u':=by simpa [VL.get] using hg 0 (by rw [VL.len];omega)
   have ht:t=t':=VL.ext (by simp only [VL.len] at h;omega) (fun j hj=>by simpa [VL.get] using hg (j+1) (by rw [VL.len];omega))
   rw [h0,ht]
theorem VM.ext:∀ {l l':VM},l.len=l'.len→(∀ j,j < l.len→l.get j=l'.get j)→l=l'
 | .nil,.nil,_,_=>rfl
 | .nil,.cons _ _ _,h,_=>by simp [VM.len] at h
 | .cons _ _ _,.nil,h,_=>by simp [VM.len] at h
 | .cons x u t,.cons x' u' t',h,hg=>by
   have h0:x=x'∧u=u':=by simpa [VM.get] using hg 0 (by rw [VM.len];omega)
   have ht:t=t':=VM.ext (by simp only [VM.len] at h;omega) (fun j hj=>by simpa [VM.get] using hg (j+1) (by rw [VM.len];omega))
   rw [h0.1,h0.2,ht]
def Nw (l l':VL) (q:Nat):Prop:=∀ j,j < q→l.get j=l'.get j
def P6 (l l':VM) (q:Nat):Prop:=∀ j,j < q→l.get j=l'.get j
theorem Nw.next {l l':VL} {q:Nat} {v:VT} (h:Nw l l' q) (h1:l.get q=some v) (h2:l'.get q=some v):Nw l l' (q+1):=fun j hj=>by
 rcases Nat.lt_or_ge j q with h'|h'
 · exact h j h'
 · obtain rfl:j=q:=by omega
   rw [h1,h2]
theorem P6.next {l l':VM} {q:Nat} {v:ByteArray × VT} (h:P6 l l' q) (h1:l.get q=some v) (h2:l'.get q=some v):P6 l l' (q+1):=fun j hj=>by
 rcases Nat.lt_or_ge j q with h'|h'
 · exact h j h'
 · obtain rfl:j=q:=by omega
   rw [h1,h2]
def Pm (u:VT):Prop:=∀ (v:VT) (c0 c1 c2 c3 c4 d0 d1 d2 d3 d4:Value) (w:World) (B:Nat),B≤w.heap.size→VAt w B u c0 c1 c2 c3 c4→VAt w B v d0 d1 d2 d3 d4 →
 Calls Tryz.prog 21 #[.agg #[c0,c1,c2,c3,c4],.agg #[d0,d1,d2,d3,d4]] w fun e w'=>(∃ b,e=.returned (.bool b)∧(b=true ↔ u=v))∧Below w.heap.size w w'
def Ym2 (m:VM):Prop:=∀ (m':VM) (A A':Option Addr) (c c':Nat) (w:World) (B:Nat),B≤w.heap.size→m.len≤9223372036854775807→m'.len≤9223372036854775807→MAt w B m A 0→MAt w B m' A' 0 →
 Calls Tryz.prog 55 #[.slice A m.len c,.slice A' m'.len c'] w fun e w'=>(∃ b,e=.returned (.bool b)∧(b=true ↔ m=m'))∧Below w.heap.size w w'
theorem Mo {p q:Prop} {b:Bool} (h:b=true ↔ p) (hq:q):(∃ b',Ending.returned (.bool b)=.returned (.bool b')∧(b'=true ↔ p))∧q:=⟨⟨b,rfl,h⟩,hq⟩
theorem Ylh {p:Prop} (h:p):true=true ↔ p:=⟨fun _=>h,fun _=>rfl⟩
theorem Oz {p:Prop} (h : ¬ p):false=true ↔ p:=⟨fun e=>by simp at e,fun e=>absurd e h⟩
theorem Pm.yes {u v:VT} (h:Pm u) (e:u=v) (c0 c1 c2 c3 c4 d0 d1 d2 d3 d4:Value) (w:World) (B:Nat) (hB:B≤w.heap.size) (h1:VAt w B u c0 c1 c2 c3 c4) (h2:VAt w B v d0 d1 d2 d3 d4) :
  Calls Tryz.prog 21 #[.agg #[c0,c1,c2,c3,c4],.agg #[d0,d1,d2,d3,d4]] w fun e w'=>e=.returned (.bool true)∧Below w.heap.size w w':=by
 refine (h v c0 c1 c2 c3 c4 d0 d1 d2 d3 d4 w B hB h1 h2).mono ?_
 rintro e' w' ⟨⟨b,rfl,hb⟩,hw⟩
 rw [hb.2 e]
 exact ⟨rfl,hw⟩
theorem Pm.no {u v:VT} (h:Pm u) (e : ¬ u=v) (c0 c1 c2 c3 c4 d0 d1 d2 d3 d4:Value) (w:World) (B:Nat) (hB:B≤w.heap.size) (h1:VAt w B u c0 c1 c2 c3 c4) (h2:VAt w B v d0 d1 d2 d3 d4) :
  Calls Tryz.prog 21 #[.agg #[c0,c1,c2,c3,c4],.agg #[d0,d1,d2,d3,d4]] w fun e w'=>e=.returned (.bool false)∧Below w.heap.size w w':=by
 refine (h v c0 c1 c2 c3 c4 d0 d1 d2 d3 d4 w B hB h1 h2).mono ?_
 rintro e' w' ⟨⟨b,rfl,hb⟩,hw⟩
 have:b=false:=by cases b;rfl;exact absurd (hb.1 rfl) e
 rw [this]
 exact ⟨rfl,hw⟩
def KE (w:World) (b O:Nat) (nm d0 d1 d2 d3 d4:Value) (b' O':Nat) (nm' f0 f1 f2 f3 f4:Value) (W:World):Prop:=
 W.cell? ⟨b,O,none⟩=some nm∧Ss W b (O+1) d0 d1 d2 d3 d4∧W.cell? ⟨b',O',none⟩=some nm'∧Ss W b' (O'+1) f0 f1 f2 f3 f4∧Below w.heap.size w W
theorem KE.next {w W W':World} {b O:Nat} {nm d0 d1 d2 d3 d4:Value} {b' O':Nat} {nm' f0 f1 f2 f3 f4:Value} (h:KE w b O nm d0 d1 d2 d3 d4 b' O' nm' f0 f1 f2 f3 f4 W) (hl:b < w.heap.size) (hl':b' < w.heap.size) (hb:Below W.heap.size W W'):KE w b O nm d0 d1 d2 d3 d4 b' O' nm' f0 f1 f2 f3 f4 W':=by
 obtain ⟨h1,h2,h3,h4,hB⟩:=h
 have g:=Nat.lt_of_lt_of_le hl hB.size
 have g':=Nat.lt_of_lt_of_le hl' hB.size
 exact ⟨(hb.cell (p:=⟨b,_,none⟩) g).trans h1,h2.below hb g,(hb.cell (p:=⟨b',_,none⟩) g').trans h3,h4.below hb g',hB.trans (hb.mono hB.size)⟩
theorem KE.written {w W:World} {b O:Nat} {nm d0 d1 d2 d3 d4:Value} {b' O':Nat} {nm' f0 f1 f2 f3 f4:Value} (h:KE w b O nm d0 d1 d2 d3 d4 b' O' nm' f0 f1 f2 f3 f4 W) :
  W.cell? ⟨b,O,none⟩=some nm∧W.cell? ⟨b,O+1,none⟩=some d0∧W.cell? ⟨b,O+1+1,none⟩=some d1∧W.cell? ⟨b,O+1+2,none⟩=some d2∧W.cell? ⟨b,O+1+3,none⟩=some d3∧W.cell? ⟨b,O+1+4,none⟩=some d4 ∧
  W.cell? ⟨b',O',none⟩=some nm'∧W.cell? ⟨b',O'+1,none⟩=some f0∧W.cell? ⟨b',O'+1+1,none⟩=some f1∧W.cell? ⟨b',O'+1+2,none⟩=some f2∧W.cell? ⟨b',O'+1+3,none⟩=some f3∧W.cell? ⟨b',O'+1+4,none⟩=some f4 ∧
  KE w b O nm d0 d1 d2 d3 d4 b' O' nm' f0 f1 f2 f3 f4 W:=
 ⟨h.1,h.2.1.1,h.2.1.2.1,h.2.1.2.2.1,h.2.1.2.2.2.1,h.2.1.2.2.2.2,h.2.2.1,h.2.2.2.1.1,h.2.2.2.1.2.1,h.2.2.2.1.2.2.1,h.2.2.2.1.2.2.2.1,h.2.2.2.1.2.2.2.2,h⟩
theorem Zkz (N:Nat) (H:∀ u,Mn u≤N→Pm u):∀ m,Zz8 m≤N→Ym2 m:=by
 intro m hm m' A A' c c' w B hB hl hl' h1 h2
 have H1:=Hd h1
 have H2:=Hd h2
 have HS:=Hd H
 have HB0:=Hd hB
 clear h1 h2 H hB
 by_cases hlen:m.len=m'.len
 · generalize hn:m.len=n at *
   have HN:=Hd hn
   have HN':=Hd hlen
   subst hlen
   clear hn
   have e0:((m'.len:Int) != (m'.len:Int))=false:=by simp
   go_enter Tryz.func55,Tryz.ntmps55
   go_wp2_with fail
   go_loopg [5] m'.len (fun g i wx=>∃ q:Nat,q+g=m'.len∧i=.int .i64 q∧Below w.heap.size w wx∧Aside (P6 m m' q))
   case atStart=>exact ⟨0,by omega,rfl,Below.refl _ _,Zu (fun j hj=>by omega)⟩
   case round =>
    obtain ⟨q,hq,rfl,hb,HA⟩:=hrel
    have HBB:=Hd hb
    clear hb
    cases gk with
    | zero =>
      obtain rfl:q=m'.len:=by omega
      have hE:Hid (m=m'):=Hd (VM.ext HN.out (by rw [HN.out];exact HA.out))
      clear HA
      go_wp2_with fail
      go_ret
      exact Mo (Ylh hE.out) HBB.out
    | succ g =>
      have hqn:q < m'.len:=by omega
      have hqn':(q:Int) < (m'.len:Int):=by omega
      obtain ⟨⟨nm,v⟩,hv⟩:=VM.get_lt (l:=m) (j:=q) (by rw [HN.out];exact hqn)
      obtain ⟨⟨nm',v'⟩,hv'⟩:=VM.get_lt hqn
      have hvN:=St hv
      obtain ⟨b,o,d0,d1,d2,d3,d4,rfl,hblt,hnm,hns,hF,hV⟩:=MAt.at (MAt.below (HBB.out.mono HB0.out) _ _ _ H1.out) hv
      obtain ⟨b',o',f0,f1,f2,f3,f4,rfl,hblt',hnm',hns',hF',hV'⟩:=MAt.at (MAt.below (HBB.out.mono HB0.out) _ _ _ H2.out) hv'
      rw [Nat.zero_add] at hF hnm hF' hnm'
      have hE:=Hd hv
      have hE':=Hd hv'
      clear hv hv'
      by_cases hnn:nm=nm'
      · subst hnn
        have e1:(nm.toList != nm.toList)=false:=by simp
        have e1':(nm.toList == nm.toList)=true:=by simp
        have HBW:Hid (b < w.heap.size):=Hd (Nat.lt_of_lt_of_le hblt HB0.out)
        have HBW':Hid (b' < w.heap.size):=Hd (Nat.lt_of_lt_of_le hblt' HB0.out)
        have hE0:KE w b (o+q*6) (.string nm) d0 d1 d2 d3 d4 b' (o'+q*6) (.string nm) f0 f1 f2 f3 f4 wr:=⟨hnm,hF,hnm',hF',HBB.out⟩
        obtain ⟨g0,g1,g2,g3,g4⟩:=hF
        obtain ⟨g5,g6,g7,g8,g9⟩:=hF'
        by_cases hvv:v=v'
        · subst hvv
          have C:=fun (wx:World) (hx:Below wr.heap.size wr wx)=>Hd ((HS.out v (by omega)).yes rfl d0 d1 d2 d3 d4 f0 f1 f2 f3 f4 wx B (Nat.le_trans HB0.out (Nat.le_trans HBB.out.size hx.size)) (VAt.below (hx.mono (Nat.le_trans HB0.out HBB.out.size)) _ _ _ _ _ _ hV) (VAt.below (hx.mono (Nat.le_trans HB0.out HBB.out.size)) _ _ _ _ _ _ hV'))
          have hnx:Hid (P6 m m' (q+1)):=Hd (P6.next HA.out hE.out hE'.out)
          clear hV hV' HA hvN hblt hblt'
          go_wp2_with fail
          go_region_held3 (fun w'=>w'.cell? ⟨b,o+q*6,none⟩=some (.string nm)∧w'.cell? ⟨b,o+q*6+1,none⟩=some d0∧w'.cell? ⟨b,o+q*6+1+1,none⟩=some d1∧w'.cell? ⟨b,o+q*6+1+2,none⟩=some d2∧w'.cell? ⟨b,o+q*6+1+3,none⟩=some d3∧w'.cell? ⟨b,o+q*6+1+4,none⟩=some d4∧w'.cell? ⟨b',o'+q*6,none⟩=some (.string nm)∧w'.cell? ⟨b',o'+q*6+1,none⟩=some f0∧w'.cell? ⟨b',o'+q*6+1+1,none⟩=some f1∧w'.cell? ⟨b',o'+q*6+1+2,none⟩=some f2∧w'.cell? ⟨b',o'+q*6+1+3,none⟩=some f3∧w'.cell? ⟨b',o'+q*6+1+4,none⟩=some f4∧KE w b (o+q*6) (.string nm) d0 d1 d2 d3 d4 b' (o'+q*6) (.string nm) f0 f1 f2 f3 f4 w')
           (first
            | exact KE.written (KE.next hE0 HBW.out HBW'.out (Below.drew (Below.refl _ _)))
            | exact KE.written ((KE.next hE0 HBW.out HBW'.out (Below.drew (Below.refl _ _))).next HBW.out HBW'.out (by assumption))
            | exact KE.written (KE.next hE0 HBW.out HBW'.out (by assumption))
            | exact KE.written (KE.next (by assumption) HBW.out HBW'.out (by assumption))
            | go_keep)
           ((first|(go_at_call 21;refine (C _ (by first|exact Below.drew (Below.refl _ _)|exact Below.refl _ _|assumption)).out.mono ?_;rintro e w' ⟨rfl,hb⟩)))
          all_goals
           have HKM:KE w b (o+q*6) (.string nm) d0 d1 d2 d3 d4 b' (o'+q*6) (.string nm) f0 f1 f2 f3 f4 w':=And.right (And.right (And.right (And.right (And.right (And.right (And.right (And.right (And.right (And.right (And.right (And.right (by assumption))))))))))))
           have HKB:=Hd HKM.2.2.2.2
           clear HKM hE0 C g0 g1 g2 g3 g4 g5 g6 g7 g8 g9
           go_wp2_with fail
           go_roundg g
           case measure=>omega
           case rel=>exact ⟨q+1,by omega,by go_num,HKB.out,Zu hnx.out⟩
        · have C:=fun (wx:World) (hx:Below wr.heap.size wr wx)=>Hd ((HS.out v (by omega)).no hvv d0 d1 d2 d3 d4 f0 f1 f2 f3 f4 wx B (Nat.le_trans HB0.out (Nat.le_trans HBB.out.size hx.size)) (VAt.below (hx.mono (Nat.le_trans HB0.out HBB.out.size)) _ _ _ _ _ _ hV) (VAt.below (hx.mono (Nat.le_trans HB0.out HBB.out.size)) _ _ _ _ _ _ hV'))
          have hno:Hid (¬ m=m'):=Hd (fun h=>by
           subst h
           have:=hE.out.symm.trans hE'.out
           simp only [Option.some.injEq,Prod.mk.injEq] at this
           exact hvv this.2)
          clear hV hV' HA hvN hblt hblt' hvv
          go_wp2_with fail
          go_region_held3 (fun w'=>w'.cell? ⟨b,o+q*6,none⟩=some (.string nm)∧w'.cell? ⟨b,o+q*6+1,none⟩=some d0∧w'.cell? ⟨b,o+q*6+1+1,none⟩=some d1∧w'.cell? ⟨b,o+q*6+1+2,none⟩=some d2∧w'.cell? ⟨b,o+q*6+1+3,none⟩=some d3∧w'.cell? ⟨b,o+q*6+1+4,none⟩=some d4∧w'.cell? ⟨b',o'+q*6,none⟩=some (.string nm)∧w'.cell? ⟨b',o'+q*6+1,none⟩=some f0∧w'.cell? ⟨b',o'+q*6+1+1,none⟩=some f1∧w'.cell? ⟨b',o'+q*6+1+2,none⟩=some f2∧w'.cell? ⟨b',o'+q*6+1+3,none⟩=some f3∧w'.cell? ⟨b',o'+q*6+1+4,none⟩=some f4∧KE w b (o+q*6) (.string nm) d0 d1 d2 d3 d4 b' (o'+q*6) (.string nm) f0 f1 f2 f3 f4 w')
           (first
            | exact KE.written (KE.next hE0 HBW.out HBW'.out (Below.drew (Below.refl _ _)))
            | exact KE.written ((KE.next hE0 HBW.out HBW'.out (Below.drew (Below.refl _ _))).next HBW.out HBW'.out (by assumption))
            | exact KE.written (KE.next hE0 HBW.out HBW'.out (by assumption))
            | exact KE.written (KE.next (by assumption) HBW.out HBW'.out (by assumption))
            | go_keep)
           ((first|(go_at_call 21;refine (C _ (by first|exact Below.drew (Below.refl _ _)|exact Below.refl _ _|assumption)).out.mono ?_;rintro e w' ⟨rfl,hb⟩)))
          all_goals
           have HKM:KE w b (o+q*6) (.string nm) d0 d1 d2 d3 d4 b' (o'+q*6) (.string nm) f0 f1 f2 f3 f4 w':=And.right (And.right (And.right (And.right (And.right (And.right (And.right (And.right (And.right (And.right (And.right (And.right (by assumption))))))))))))
           have HKB:=Hd HKM.2.2.2.2
           clear HKM hE0 C g0 g1 g2 g3 g4 g5 g6 g7 g8 g9
           go_wp2_with fail
           go_ret
           exact Mo (Oz hno.out) HKB.out
      · have hne:nm.toList ≠ nm'.toList:=fun h=>hnn (by
          rw [ByteArray.toList_eq,ByteArray.toList_eq] at h
          exact ByteArray.ext (Array.toList_inj.1 h))
        have e1:(nm.toList != nm'.toList)=true:=by simpa using hne
        have e1':(nm.toList == nm'.toList)=false:=by simpa using hne
        have hno:Hid (¬ m=m'):=Hd (fun h=>by
          subst h
          have:=hE.out.symm.trans hE'.out
          simp only [Option.some.injEq,Prod.mk.injEq] at this
          exact hnn this.1)
        clear hne hnn HA hV hV' hF hF'
        go_wp2_with fail
        go_quiet (fail)
        go_wp2
        go_ret
        exact Mo (Oz hno.out) (Rj HBB.out _)
 · have hno:Hid (¬ m=m'):=Hd (fun h=>hlen (by rw [h]))
   have e0:((m.len:Int) != (m'.len:Int))=true:=by simp;omega
   clear H1 H2 HS hlen
   go_enter Tryz.func55,Tryz.ntmps55
   go_wp2
   go_ret
   exact Mo (Oz hno.out) (Below.refl _ _)
end Go.Proofs.YtpkmbhnikilihaaGreatDoor
