/- Plain facts on lines of bytes, of no program: lines, how far they stand in, what a block says. -/
import Derived.Deep.RegionHeld
import Derived.Lib.Strings
import Derived.Test.YtkmloefbkgcbkaaGreatDoorChecked
import Derived.WalkKit
import Derived.Deep.LoopGhost
import Derived.Below
import Derived.Lib.Hide
import Derived.Laws.AppendOwn
import Derived.Laws.MakeOwn
import Derived.Laws.AppendOwnNone
import Derived.Deep.AppendLies
import Derived.Deep.QuietTactic
import Derived.BigQuiet
import Derived.Deep.Draws
set_option maxRecDepth 100000
set_option maxHeartbeats 1000000
namespace Go.Proofs.YtkmloefbkgcbkaaGreatDoor
open Go.RowKit
theorem tkE {P:Program} {md:Region.Mode} {ops:Array Oper} {Q:Exit→Act→World→Prop} {i:Nat} {oi:Oper} {v:Value} {fuel:Nat} {listed:Array Bool} {a:Act} {w:World} (hi:ops[i]? = some oi) (hy:YieldsIf P ops (fun _=>True) oi v a)
    (h:wpAnyH P md ops Q (fun _=>True) fuel (listed.setIfInBounds i true) (a.put oi.dst v) w) (hs:Region.noSelect ops=true:=by kernel_rfl) (hf:Region.free md ops listed i=true:=by kernel_rfl) (hr:(Region.ready md ops listed).contains i=true:=by kernel_rfl)
    (hQ:∀ c a w,Q (.panic c) (a.put oi.dst v) w→Q (.panic c) a w:=by exact fun _ _ _ h=>h):wpAnyH P md ops Q (fun _=>True) (fuel+1) listed a w:=wpAnyH_take hi hs hf hr hQ hy trivial h
theorem rdE {P:Program} {md:Region.Mode} {ops:Array Oper} {Q:Exit→Act→World→Prop} {S:World→Prop} {rs:List Nat} {fuel:Nat} {listed:Array Bool} {a:Act} {w:World} (h:AllReadyH P md ops Q S fuel listed a w rs) (hr:Region.ready md ops listed=rs:=by kernel_rfl) (hne:rs ≠ []:=by simp):wpAnyH P md ops Q S (fuel+1) listed a w:=wpAnyH_ready hr hne h
theorem rd1E {P:Program} {md:Region.Mode} {ops:Array Oper} {Q:Exit→Act→World→Prop} {S:World→Prop} {fuel:Nat} {listed:Array Bool} {a:Act} {w:World} (i:Nat) {o:Oper} (ho:ops[i]? = some o) (h:∀ K':Act→World→Prop,Shut (∀ a w,S w→(S w→wpAnyH P md ops Q S fuel (listed.setIfInBounds i true) a w)→K' a w)→if Region.wanted o (yielded ops a.tmps)=true then Oper.wp P o a w K' Q else K' (a.put o.dst undef) w) (hr:Region.ready md ops listed=[i]:=by kernel_rfl):wpAnyH P md ops Q S (fuel+1) listed a w:=wpAnyH_ready hr (by simp) (AllReadyH.cons ho h AllReadyH.nil)
theorem rd2E {P:Program} {md:Region.Mode} {ops:Array Oper} {Q:Exit→Act→World→Prop} {S:World→Prop} {fuel:Nat} {listed:Array Bool} {a:Act} {w:World} (i j:Nat) {o o':Oper} (ho:ops[i]? = some o) (ho':ops[j]? = some o') (h:∀ K':Act→World→Prop,Shut (∀ a w,S w→(S w→wpAnyH P md ops Q S fuel (listed.setIfInBounds i true) a w)→K' a w)→if Region.wanted o (yielded ops a.tmps)=true then Oper.wp P o a w K' Q else K' (a.put o.dst undef) w) (h':∀ K':Act→World→Prop,Shut (∀ a w,S w→(S w→wpAnyH P md ops Q S fuel (listed.setIfInBounds j true) a w)→K' a w)→if Region.wanted o' (yielded ops a.tmps)=true then Oper.wp P o' a w K' Q else K' (a.put o'.dst undef) w) (hr:Region.ready md ops listed=[i,j]:=by kernel_rfl):wpAnyH P md ops Q S (fuel+1) listed a w:=wpAnyH_ready hr (by simp) (AllReadyH.cons ho h (AllReadyH.cons ho' h' AllReadyH.nil))
theorem cQE {p:Program} {f:FuncId} {args:Array Value} {w:World} {R:Ending→World→Prop} (H:∀ Q:Ending→World→Prop,(∀ e w',R e w'→Q e w')→Calls p f args w Q):Calls p f args w R:=H _ (fun _ _ h=>h)
end Go.Proofs.YtkmloefbkgcbkaaGreatDoor
namespace Go.Proofs.YtkmloefbkgcbkaaGreatDoor
theorem Hd {p:Prop} (h:p):Go.RowKit.Hid p:=Go.Lib.hid h
theorem stT {a:List Value} {i:Nat} {x:Value} : a.toArray.setIfInBounds i x=(a.set i x).toArray:=by simp
theorem stZ {x y:Value} {a:List Value} : (x :: a).set 0 y=y :: a:=rfl
theorem stS {x y:Value} {a:List Value} {i:Nat} : (x :: a).set (i+1) y=x :: a.set i y:=rfl
end Go.Proofs.YtkmloefbkgcbkaaGreatDoor
namespace Go.Proofs.YtkmloefbkgcbkaaGreatDoor.Blk
def eolB (c:UInt8):Bool:=c == 10 || c == 13
def firstL (l:List UInt8):List UInt8:=l.takeWhile fun c=>!eolB c
def afterL (l:List UInt8):Option (List UInt8):=
 match l.dropWhile fun c=>!eolB c with
 | []=>none
 | c :: t=>if c=13 then (match t with|d :: t'=>if d=10 then some t' else some t|[]=>some t) else some t
def Ma:Nat→List UInt8→List (List UInt8)
 | 0,l=>[l]
 | n+1,l=>firstL l :: (match afterL l with|none=>[]|some t=>Ma n t)
def linesL (l:List UInt8):List (List UInt8):=Ma (l.length+1) l
theorem Rq (p:UInt8→Bool):∀ l:List UInt8,(l.dropWhile p).length≤l.length:=by
 intro l
 induction l with
 | nil=>simp
 | cons c t ih=>rw [List.dropWhile_cons];split<;>simp<;>omega
theorem afterL_len {l t:List UInt8} (h:afterL l=some t):t.length < l.length:=by
 unfold afterL at h;have hl:=Rq (fun c=>!eolB c) l
 split at h
 · cases h
 · rename_i c r hd
   rw [hd] at hl;simp only [List.length_cons] at hl
   split at h
   · split at h
     · split at h
       · cases h;simp only [List.length_cons] at hl;omega
       · cases h;simp only [List.length_cons] at hl ⊢;omega
     · cases h;simp only [List.length_nil] at hl ⊢;omega
   · cases h;omega
theorem Rp:∀ (n m:Nat) (l:List UInt8),l.length < n→l.length < m→Ma n l=Ma m l:=by
 intro n
 induction n with
 | zero=>intro m l h;omega
 | succ n ih =>
   intro m l hn hm
   cases m with
   | zero=>omega
   | succ m =>
     simp only [Ma]
     cases ha:afterL l with
     | none=>rfl
     | some t =>
       have:=afterL_len ha;simp only;rw [ih m t (by omega) (by omega)]
theorem linesL_eq (l:List UInt8):linesL l=firstL l :: (match afterL l with|none=>[]|some t=>linesL t):=by
 show Ma (l.length+1) l=_;simp only [Ma]
 cases ha:afterL l with
 | none=>rfl
 | some t =>
   have:=afterL_len ha;simp only [linesL];rw [Rp l.length (t.length+1) t (by omega) (by omega)]
def Is (l:List UInt8):Prop:=∀ c ∈ l,eolB c=false
theorem Vj {a:List UInt8} (h:Is a) (r:List UInt8):(a++r).takeWhile (fun c=>!eolB c)=a++r.takeWhile (fun c=>!eolB c):=by
 induction a with
 | nil=>rfl
 | cons c a ih =>
   have hc:=h c (by simp);rw [List.cons_append,List.takeWhile_cons,hc,List.cons_append];simp only [Bool.not_false,if_true];rw [ih (fun d hd=>h d (by simp [hd]))]
theorem Vl {a:List UInt8} (h:Is a) (r:List UInt8):(a++r).dropWhile (fun c=>!eolB c)=r.dropWhile (fun c=>!eolB c):=by
 induction a with
 | nil=>rfl
 | cons c a ih =>
   have hc:=h c (by simp);rw [List.cons_append,List.dropWhile_cons,hc];simp only [Bool.not_false,if_true];exact ih (fun d hd=>h d (by simp [hd]))
theorem Yaf {a:List UInt8} (h:Is a):linesL a=[a]:=by
 have h1:=Vj h [];have h2:=Vl h [];rw [List.append_nil] at h1 h2;rw [linesL_eq];unfold firstL afterL;rw [h1,h2];simp
theorem Zvk {a r:List UInt8} (h:Is a):linesL (a++10 :: r)=a :: linesL r:=by
 rw [linesL_eq];unfold firstL afterL;rw [Vj h,Vl h];simp [eolB]
theorem Zj1 {a r:List UInt8} (h:Is a):linesL (a++13 :: 10 :: r)=a :: linesL r:=by
 rw [linesL_eq];unfold firstL afterL;rw [Vj h,Vl h];simp [eolB]
theorem Yck {a r:List UInt8} (h:Is a) (hr:r.head? ≠ some 10):linesL (a++13 :: r)=a :: linesL r:=by
 rw [linesL_eq];unfold firstL afterL;rw [Vj h,Vl h]
 cases r with
 | nil=>simp [eolB]
 | cons d r =>
   have hd:d ≠ 10:=fun e=>hr (by rw [e];rfl);simp [eolB,hd]
theorem Ar (l:List UInt8):linesL l ≠ []:=by rw [linesL_eq];simp
def blankB (c:UInt8):Bool:=c == 9 || c == 32
def leadN (l:List UInt8):Nat:=(l.takeWhile blankB).length
def inkB (l:List UInt8):Bool:=l.any fun c=>!blankB c
def stepI (out:Int) (x:List UInt8):Int:=if inkB x=true∧(out < 0∨(leadN x:Int) < out) then (leadN x:Int) else out
def indentL (ls:List (List UInt8)):Int:=(ls.drop 1).foldl stepI (-1)
def cutL (n:Nat):List (List UInt8)→List (List UInt8)
 | []=>[]
 | x :: t=>x :: t.map (List.drop n)
def Io (ls:List (List UInt8)):List (List UInt8):=ls.dropWhile fun x=>!inkB x
def Od (ls:List (List UInt8)):List (List UInt8):=(Io (Io ls).reverse).reverse
def joinTen:List (List UInt8)→List UInt8
 | []=>[]
 | [x]=>x
 | x :: y :: t=>x++10 :: joinTen (y :: t)
def Tm (raw:List UInt8):List (List UInt8):=Od (cutL (max (indentL (linesL raw)) 0).toNat (linesL raw))
def valueL (raw:List UInt8):List UInt8:=joinTen (Tm raw)
open Go.RowKit
theorem Aside.intro {p:Prop} (h:p):Aside p:=h
theorem Z6 {a b:Bool} (h:a=b):Ending.returned (.bool a)=.returned (.bool b):=by rw [h]
theorem Zjo {a b:Int} (h:a=b):Ending.returned (.int .i64 a)=.returned (.int .i64 b):=by rw [h]
theorem Zja {a b:ByteArray} (h:a=b):Ending.returned (.string a)=.returned (.string b):=by rw [h]
theorem Zv3 {w w':World} (h:Below w.heap.size w w'):w.grownBy w' none:=⟨h.os,h.tape,h.output,h.size,fun i hi _=>h.block i hi⟩
theorem Zxm (v:Value):v.ownBlock=none∨v.ownBlock ≠ none:=Classical.em _
theorem Xn {w:World} {base:Nat} {e:TypeId} {v:Value} {n:Nat} {xs:List Value} (h:w.ownsRow base e 1 v n xs):∃ A cap,v=.slice A n cap:=by
 rcases h.2 with ⟨hv,hn⟩|⟨g,cap,cur,hv,_⟩
 · exact ⟨none,0,by rw [hv,hn]⟩
 · exact ⟨_,_,hv⟩
def Fk (w:World) (B:Nat) (A:Option Addr) (n:Nat) (xs:List ByteArray):Prop:=
 xs.length=n∧∀ (j:Nat) x,xs[j]? = some x→∃ b o,A=some ⟨b,o,none⟩∧b < B∧w.cell? ⟨b,o+j,none⟩=some (.string x)
theorem Fk.below {w w':World} {B:Nat} {A:Option Addr} {n:Nat} {xs:List ByteArray} (h:Fk w B A n xs) (hb:Below B w w'):Fk w' B A n xs:=
 ⟨h.1,fun j z hz=>by
  obtain ⟨b,o,e,hlt,hc⟩:=h.2 j z hz;exact ⟨b,o,e,hlt,(hb.cell (p:=⟨b,o+j,none⟩) hlt).trans hc⟩⟩
theorem Fk.more {w:World} {B B':Nat} {A:Option Addr} {n:Nat} {xs:List ByteArray} (h:Fk w B A n xs) (hB:B≤B'):Fk w B' A n xs:=
 ⟨h.1,fun j z hz=>by
  obtain ⟨b,o,e,hlt,hc⟩:=h.2 j z hz;exact ⟨b,o,e,by omega,hc⟩⟩
theorem Fk.on {w w':World} {A:Option Addr} {n:Nat} {xs:List ByteArray} (h:Fk w w.heap.size A n xs) (hb:Below w.heap.size w w'):Fk w' w'.heap.size A n xs:=(h.below hb).more hb.size
theorem C2 {w:World} {base n:Nat} {A:Option Addr} {cap:Nat} {xs:List ByteArray} (h:w.ownsRow base 9 1 (.slice A n cap) xs.length (xs.map Value.string)):n=xs.length∧Fk w w.heap.size A xs.length xs:=by
 rcases h.2 with ⟨hv,hn⟩|⟨g,c,cur,hv,hbase,hh,hnc,hm,hcs,htk⟩
 · injection hv with h1 h2 h3
   have hus:xs=[]:=List.eq_nil_of_length_eq_zero hn;subst hus;exact ⟨by simpa using h2,⟨rfl,fun j z hz=>by simp at hz⟩⟩
 · have hv':=hv
   injection hv' with h1 h2 h3
   subst h1;refine ⟨h2,rfl,fun j z hz=>⟨g,0,rfl,?_,?_⟩⟩
   · exact (h.lt g rfl).2
   · subst h2 h3
     rw [Nat.zero_add,World.ownsRow.cellAt h j (by have:=(List.getElem?_eq_some_iff.1 hz).1;omega),List.getElem?_map,hz]
     rfl
def Y9 (l:List UInt8):List ByteArray:=(linesL l).map fun x=>⟨x.toArray⟩
theorem La {b c:UInt8} (h:b ≠ c):(b.toNat:Int) ≠ (c.toNat:Int):=fun e=>h (UInt8.toNat_inj.1 (by omega))
theorem Pz {b:UInt8} {z:Int} (h:(b.toNat:Int) ≠ z):((b.toNat:Int) == z)=false:=by simp [h]
theorem P0 {b:UInt8} {z:Int} (h:(b.toNat:Int) ≠ z):((b.toNat:Int) != z)=true:=by simp [h]
theorem Zc (s:ByteArray) (f k:Nat) (hf:f≤k) (hk:k < s.size):s.data.toList.drop f=(s.data.toList.drop f).take (k - f)++s[k] :: s.data.toList.drop (k+1):=by
 have hl:s.data.toList.length=s.size:=Array.length_toList;have e:=(List.take_append_drop (k - f) (s.data.toList.drop f)).symm;rw [List.drop_drop,show f+(k - f)=k from by omega,List.drop_eq_getElem_cons (i:=k) (by omega)] at e;exact e
theorem Pv {s:ByteArray} {f k:Nat} (hf:f≤k) (hk:k < s.size) (h:Is ((s.data.toList.drop f).take (k - f))) (hc:eolB s[k]=false):Is ((s.data.toList.drop f).take (k+1 - f)):=by
 have hl:s.data.toList.length=s.size:=Array.length_toList
 have e:(s.data.toList.drop f).take (k+1 - f)=(s.data.toList.drop f).take (k - f)++[s[k]]:=by
   rw [show k+1 - f=(k - f)+1 from by omega,List.take_add_one,List.getElem?_drop,show f+(k - f)=k from by omega,List.getElem?_eq_getElem (by omega)]
   rfl
 rw [e];intro c hc';rw [List.mem_append] at hc';rcases hc' with h'|h'
 · exact h c h'
 · simp only [List.mem_cons,List.not_mem_nil,or_false] at h'
   rw [h'];exact hc
def Jw (s:ByteArray) (f k:Nat) (done:List ByteArray):Prop:=done++Y9 (s.data.toList.drop f)=Y9 s.data.toList∧Is ((s.data.toList.drop f).take (k - f))
theorem Gc {S:ByteArray} {a:List UInt8} (h:S.data.toList=a):(⟨a.toArray⟩:ByteArray)=S:=by subst h;simp
theorem U5 (s:ByteArray) (f k:Nat):(s.extract f k).data.toList=(s.data.toList.drop f).take (k - f):=by
 rw [ByteArray.data_extract,Array.toList_extract,List.extract]
theorem Jw.ten {s:ByteArray} {f k:Nat} {done:List ByteArray} (h:Jw s f k done) (hf:f≤k) (hk:k < s.size) (hc:s[k]=10):Jw s (k+1) (k+1) (done++[s.extract f k]):=by
 obtain ⟨h1,h2⟩:=h;rw [Zc s f k hf hk,hc] at h1;unfold Y9 at h1;rw [Zvk h2,List.map_cons,Gc (U5 s f k)] at h1;exact ⟨by unfold Y9;rw [← h1];simp,by simp [Is]⟩
theorem Jw.both {s:ByteArray} {f k:Nat} {done:List ByteArray} (h:Jw s f k done) (hf:f≤k) (hk:k+1 < s.size) (hc:s[k]=13) (hd:s[k+1]=10):Jw s (k+2) (k+2) (done++[s.extract f k]):=by
 obtain ⟨h1,h2⟩:=h;have hl:s.data.toList.length=s.size:=Array.length_toList;have e:s.data.toList.drop (k+1)=s[k+1] :: s.data.toList.drop (k+2):=List.drop_eq_getElem_cons (by omega);rw [Zc s f k hf (by omega),hc,e,hd] at h1;unfold Y9 at h1;rw [Zj1 h2,List.map_cons,Gc (U5 s f k)] at h1;exact ⟨by unfold Y9;rw [← h1];simp,by simp [Is]⟩
theorem Jw.cr {s:ByteArray} {f k:Nat} {done:List ByteArray} (h:Jw s f k done) (hf:f≤k) (hk:k < s.size) (hc:s[k]=13) (hd:∀ (h:k+1 < s.size),s[k+1] ≠ 10):Jw s (k+1) (k+1) (done++[s.extract f k]):=by
 obtain ⟨h1,h2⟩:=h;have hl:s.data.toList.length=s.size:=Array.length_toList
 have hr:(s.data.toList.drop (k+1)).head? ≠ some 10:=by
  rw [List.head?_drop]
  by_cases hk1:k+1 < s.size
  · rw [List.getElem?_eq_getElem (by omega)]
    intro e;injection e with e
    exact hd hk1 e
  · rw [List.getElem?_eq_none (by omega)]
    intro e;cases e
 rw [Zc s f k hf hk,hc] at h1;unfold Y9 at h1;rw [Yck h2 hr,List.map_cons,Gc (U5 s f k)] at h1;exact ⟨by unfold Y9;rw [← h1];simp,by simp [Is]⟩
theorem Jw.done {s:ByteArray} {f:Nat} {done:List ByteArray} (h:Jw s f s.size done):Y9 s.data.toList=done++[s.extract f s.size]:=by
 obtain ⟨h1,h2⟩:=h;have hl:s.data.toList.length=s.size:=Array.length_toList;rw [List.take_of_length_le (by rw [List.length_drop];omega)] at h2;rw [← h1];unfold Y9;rw [Yaf h2];have:=Gc (U5 s f s.size);rw [List.take_of_length_le (by rw [List.length_drop];omega)] at this;simp [this]
theorem En:∃ i0,Tryz.prog.info? 9=some i0∧i0.zero=some (.string ByteArray.empty)∧i0.size=1∧i0.bytes=16:=by
 have hi9:(Tryz.prog.info? 9).map (fun i=>(i.zero,i.size,i.bytes))=some (some (.string ByteArray.empty),1,16):=by kernel_rfl
 obtain ⟨i0,hi,hx⟩:=Option.map_eq_some_iff.1 hi9;simp only [Prod.mk.injEq] at hx;exact ⟨i0,hi,hx.1,hx.2.1,hx.2.2⟩
theorem Yac (s:ByteArray) (w:World) (hs:s.size≤9000) :
  Calls Tryz.prog 118 #[.string s] w fun e w'=>∃ A cap,e=.returned (.slice A (Y9 s.data.toList).length cap)∧w'.ownsRow w.heap.size 9 1 (.slice A (Y9 s.data.toList).length cap) (Y9 s.data.toList).length ((Y9 s.data.toList).map Value.string)∧Below w.heap.size w w':=by
 obtain ⟨i0,hi,hz0,hz1,hz2⟩:=En
 go_enter Tryz.func118,Tryz.ntmps118
 go_wp2
 go_loopg [3,4,5] s.size (fun g out fr i wx=>∃ (k f:Nat) (done:List ByteArray),f≤k∧k+g=s.size∧i=.int .i64 k∧fr=.int .i64 f∧done.length≤k∧Aside (Jw s f k done)∧wx.ownsRow w.heap.size 9 1 out done.length (done.map Value.string)∧Below w.heap.size w wx)
 case atStart=>exact ⟨0,0,[],by omega,by omega,rfl,rfl,by simp,Aside.intro ⟨by simp,by simp [Is]⟩,World.ownsRow_nil _ _ _ _,Below.refl _ _⟩
 case round =>
  obtain ⟨k,f,done,hfk,hk,rfl,rfl,hdl,H,hown,hb⟩:=hrel;obtain ⟨A,cap,rfl⟩:=Xn hown;have hf0:(0:Int)≤(f:Int):=by omega
  have hfk':(f:Int)≤(k:Int):=by omega
  have hks:(k:Int)≤(s.size:Int):=by omega
  have HB:=Hd hb;have hbs:=hb.size;clear hb
  cases gk with
  | zero =>
    obtain rfl:k=s.size:=by omega
    have hdone:=Hd (H.out.done);clear H
    go_wp2_with (at_builtin;refine wpList_append_own _ rfl _ _ 31 rfl w.heap.size 9 i0 (.string ByteArray.empty) 1 16 Tryz.underlying31 hi hz0 hz1 hz2 rfl (by decide) _ _ _ rfl (hown.alloc _) ⟨wr.heap.size,0,none⟩ 1 1 [.string (s.extract f s.size)] rfl rfl (cell_one_new _ _ _) (by intro x hx;simp at hx;rcases hx with rfl;rfl) (by unfold maxLen;omega) (by omega) (by simp;omega) ?_;intro v' w3 hown' hgrow _;obtain ⟨A',cap',rfl⟩:=Xn hown';have HG:=Hd hgrow;have HO:=Hd hown';have HW:=Hd hown;clear hgrow hown' hown)
    go_ret
    refine ⟨A',cap',?_,?_,(HB.out.alloc HB.out.size _).grown HG.out (by simp;omega) (fun q hq=>(HW.out.lt q hq).1)⟩
    · rw [hdone.out,List.length_append];rfl
    · rw [hdone.out,List.map_append,List.length_append];exact HO.out
  | succ g =>
    have hlt:k < s.size:=by omega
    have hlt':(k:Int) < (s.size:Int):=by omega
    by_cases c10:s[k]=10
    · have n10:((s[k].toNat:Int) != 10)=false:=by rw [c10];rfl
      have n13:((s[k].toNat:Int) == 13)=false:=by rw [c10];rfl
      have hT:=Hd (H.out.ten hfk hlt c10);clear H c10
      go_wp2_with (at_builtin;refine wpList_append_own _ rfl _ _ 31 rfl w.heap.size 9 i0 (.string ByteArray.empty) 1 16 Tryz.underlying31 hi hz0 hz1 hz2 rfl (by decide) _ _ _ rfl (hown.alloc _) ⟨wr.heap.size,0,none⟩ 1 1 [.string (s.extract f k)] rfl rfl (cell_one_new _ _ _) (by intro x hx;simp at hx;rcases hx with rfl;rfl) (by unfold maxLen;omega) (by omega) (by simp;omega) ?_;intro v' w3 hown' hgrow _;obtain ⟨A',cap',rfl⟩:=Xn hown';have HG:=Hd hgrow;have HO:=Hd hown';have HW:=Hd hown;clear hgrow hown' hown)
      go_roundg g
      case measure=>omega
      case rel=>exact ⟨k+1,k+1,done++[s.extract f k],by omega,by omega,by go_num,by go_num,by simp;omega,Aside.intro hT.out,by rw [List.map_append,List.length_append];exact HO.out,(HB.out.alloc HB.out.size _).grown HG.out (by simp;omega) (fun q hq=>(HW.out.lt q hq).1)⟩
    by_cases c13:s[k]=13
    · have n10:((s[k].toNat:Int) != 10)=true:=by rw [c13];rfl
      have n13:((s[k].toNat:Int) != 13)=false:=by rw [c13];rfl
      have m13:((s[k].toNat:Int) == 13)=true:=by rw [c13];rfl
      by_cases hk1:k+1 < s.size
      · have hk1':(k:Int)+1 < (s.size:Int):=by omega
        by_cases d10:s[k+1]=10
        · have m10:((s[k+1].toNat:Int) == 10)=true:=by rw [d10];rfl
          have hT:=Hd (H.out.both hfk hk1 c13 d10);clear H c10 c13 d10
          go_wp2_with (at_builtin;refine wpList_append_own _ rfl _ _ 31 rfl w.heap.size 9 i0 (.string ByteArray.empty) 1 16 Tryz.underlying31 hi hz0 hz1 hz2 rfl (by decide) _ _ _ rfl (hown.alloc _) ⟨wr.heap.size,0,none⟩ 1 1 [.string (s.extract f k)] rfl rfl (cell_one_new _ _ _) (by intro x hx;simp at hx;rcases hx with rfl;rfl) (by unfold maxLen;omega) (by omega) (by simp;omega) ?_;intro v' w3 hown' hgrow _;obtain ⟨A',cap',rfl⟩:=Xn hown';have HG:=Hd hgrow;have HO:=Hd hown';have HW:=Hd hown;clear hgrow hown' hown)
          go_roundg (s.size - (k+2))
          case measure=>omega
          case rel=>exact ⟨k+2,k+2,done++[s.extract f k],by omega,by omega,by go_num,by go_num,by simp;omega,Aside.intro hT.out,by rw [List.map_append,List.length_append];exact HO.out,(HB.out.alloc HB.out.size _).grown HG.out (by simp;omega) (fun q hq=>(HW.out.lt q hq).1)⟩
        · have m10:((s[k+1].toNat:Int) == 10)=false:=Pz (La d10)
          have hT:=Hd (H.out.cr hfk hlt c13 (fun _=>d10));clear H c10 c13 d10
          go_wp2_with (at_builtin;refine wpList_append_own _ rfl _ _ 31 rfl w.heap.size 9 i0 (.string ByteArray.empty) 1 16 Tryz.underlying31 hi hz0 hz1 hz2 rfl (by decide) _ _ _ rfl (hown.alloc _) ⟨wr.heap.size,0,none⟩ 1 1 [.string (s.extract f k)] rfl rfl (cell_one_new _ _ _) (by intro x hx;simp at hx;rcases hx with rfl;rfl) (by unfold maxLen;omega) (by omega) (by simp;omega) ?_;intro v' w3 hown' hgrow _;obtain ⟨A',cap',rfl⟩:=Xn hown';have HG:=Hd hgrow;have HO:=Hd hown';have HW:=Hd hown;clear hgrow hown' hown)
          go_roundg g
          case measure=>omega
          case rel=>exact ⟨k+1,k+1,done++[s.extract f k],by omega,by omega,by go_num,by go_num,by simp;omega,Aside.intro hT.out,by rw [List.map_append,List.length_append];exact HO.out,(HB.out.alloc HB.out.size _).grown HG.out (by simp;omega) (fun q hq=>(HW.out.lt q hq).1)⟩
      · have hk1' : ¬ ((k:Int)+1 < (s.size:Int)):=by omega
        have hT:=Hd (H.out.cr hfk hlt c13 (fun h=>absurd h hk1));clear H c10 c13
        go_wp2_with (at_builtin;refine wpList_append_own _ rfl _ _ 31 rfl w.heap.size 9 i0 (.string ByteArray.empty) 1 16 Tryz.underlying31 hi hz0 hz1 hz2 rfl (by decide) _ _ _ rfl (hown.alloc _) ⟨wr.heap.size,0,none⟩ 1 1 [.string (s.extract f k)] rfl rfl (cell_one_new _ _ _) (by intro x hx;simp at hx;rcases hx with rfl;rfl) (by unfold maxLen;omega) (by omega) (by simp;omega) ?_;intro v' w3 hown' hgrow _;obtain ⟨A',cap',rfl⟩:=Xn hown';have HG:=Hd hgrow;have HO:=Hd hown';have HW:=Hd hown;clear hgrow hown' hown)
        go_roundg g
        case measure=>omega
        case rel=>exact ⟨k+1,k+1,done++[s.extract f k],by omega,by omega,by go_num,by go_num,by simp;omega,Aside.intro hT.out,by rw [List.map_append,List.length_append];exact HO.out,(HB.out.alloc HB.out.size _).grown HG.out (by simp;omega) (fun q hq=>(HW.out.lt q hq).1)⟩
    · have n10:((s[k].toNat:Int) != 10)=true:=P0 (La c10)
      have n13:((s[k].toNat:Int) != 13)=true:=P0 (La c13);have hT:Hid (Jw s f (k+1) done):=Hd ⟨H.out.1,Pv hfk hlt H.out.2 (by simp [eolB,c10,c13])⟩;clear H c10 c13;go_wp2
      go_roundg g
      case measure=>omega
      case rel=>exact ⟨k+1,f,done,by omega,by omega,by go_num,rfl,by omega,Aside.intro hT.out,hown,HB.out⟩
theorem Zj2 {l:List UInt8} {k:Nat} {c:UInt8} (h:(l.take k).all blankB=true) (hc:l[k]? = some c) (hn:blankB c=false):leadN l=k∧inkB l=true:=by
 obtain ⟨hk,rfl⟩:=List.getElem?_eq_some_iff.1 hc;have e:l=l.take k++l[k] :: l.drop (k+1):=by rw [← List.drop_eq_getElem_cons hk,List.take_append_drop]
 have hl:(l.take k).length=k:=by rw [List.length_take];omega
 constructor
 · unfold leadN
   have ht:∀ (a r:List UInt8) (d:UInt8),a.all blankB=true→blankB d=false→(a++d :: r).takeWhile blankB=a:=by
    intro a r d ha hd
    induction a with
    | nil=>simp [hd]
    | cons x a ih =>
      rw [List.all_cons,Bool.and_eq_true] at ha;rw [List.cons_append,List.takeWhile_cons,ha.1];simp only [if_true];rw [ih ha.2]
   rw [e,ht _ _ _ h hn,hl]
 · unfold inkB
   rw [List.any_eq_true];exact ⟨l[k],List.getElem_mem hk,by simp [hn]⟩
theorem Do {l:List UInt8} (h:l.all blankB=true):leadN l=l.length∧inkB l=false:=by
 constructor
 · unfold leadN
   have ht:∀ (a:List UInt8),a.all blankB=true→a.takeWhile blankB=a:=by
    intro a ha
    induction a with
    | nil=>rfl
    | cons x a ih =>
      rw [List.all_cons,Bool.and_eq_true] at ha;rw [List.takeWhile_cons,ha.1];simp only [if_true];rw [ih ha.2]
   rw [ht l h]
 · unfold inkB
   rw [List.any_eq_false];intro c hc;have:=List.all_eq_true.1 h c hc;simp [this]
theorem Zkk (l:List UInt8):leadN l≤l.length:=by
 unfold leadN
 induction l with
 | nil=>simp
 | cons c t ih=>rw [List.takeWhile_cons];split<;>simp<;>omega
theorem Eo {s:ByteArray} {k:Nat} (hk:k < s.size) (h:(s.data.toList.take k).all blankB=true) (hc:blankB s[k]=true):(s.data.toList.take (k+1)).all blankB=true:=by
 have hl:s.data.toList.length=s.size:=Array.length_toList;rw [List.take_add_one,List.getElem?_eq_getElem (by omega),List.all_append,h];simp only [Option.toList,List.all_cons,List.all_nil,Bool.and_true,Bool.true_and];exact hc
theorem Zxa {a b:Int} {c d:Bool} {w:World} (h1:a=b) (h2:c=d):Ending.returned (.tuple #[.int .i64 a,.bool c])=.returned (.tuple #[.int .i64 b,.bool d])∧w=w:=by subst h1 h2;exact ⟨rfl,rfl⟩
theorem Zz8 (s:ByteArray) (w:World) (hs:s.size≤100000):Calls Tryz.prog 151 #[.string s] w fun e w'=>e=.returned (.tuple #[.int .i64 (leadN s.data.toList),.bool (inkB s.data.toList)])∧w=w':=by
 have HL:Hid (s.data.toList.length=s.size):=Hd Array.length_toList
 go_enter Tryz.func151,Tryz.ntmps151
 go_wp2
 go_loopg [4] s.size (fun g i wx=>∃ k:Nat,k+g=s.size∧i=.int .i64 k∧Aside ((s.data.toList.take k).all blankB=true)∧w=wx)
 case atStart=>exact ⟨0,by omega,rfl,Aside.intro (by simp),rfl⟩
 case round =>
  obtain ⟨k,hk,rfl,H,rfl⟩:=hrel
  cases gk with
  | zero =>
    obtain rfl:k=s.size:=by omega
    have he:=H.out;rw [List.take_of_length_le (by rw [HL.out];omega)] at he;have h1:=Hd (Do he).1;have h2:=Hd (Do he).2;clear he H;go_wp2
    go_ret2
    exact Zxa (by rw [h1.out,HL.out]) h2.out.symm
  | succ g =>
    have hlt:k < s.size:=by omega
    have hlt':(k:Int) < (s.size:Int):=by omega
    by_cases c9:s[k]=9
    · have n9:((s[k].toNat:Int) != 9)=false:=by rw [c9];rfl
      have hT:=Hd (Eo hlt H.out (by rw [c9];rfl));clear H c9;go_wp2
      go_roundg g
      case measure=>omega
      case rel=>exact ⟨k+1,by omega,by go_num,Aside.intro hT.out,rfl⟩
    by_cases c32:s[k]=32
    · have n9:((s[k].toNat:Int) != 9)=true:=by rw [c32];rfl
      have n32:((s[k].toNat:Int) != 32)=false:=by rw [c32];rfl
      have hT:=Hd (Eo hlt H.out (by rw [c32];rfl));clear H c9 c32;go_wp2
      go_roundg g
      case measure=>omega
      case rel=>exact ⟨k+1,by omega,by go_num,Aside.intro hT.out,rfl⟩
    · have n9:((s[k].toNat:Int) != 9)=true:=P0 (La c9)
      have n32:((s[k].toNat:Int) != 32)=true:=P0 (La c32);have hx:=Zj2 (l:=s.data.toList) (k:=k) (c:=s[k]) H.out (by rw [List.getElem?_eq_getElem (by rw [HL.out];exact hlt)];rfl) (by simp [blankB,c9,c32]);have h1:=Hd hx.1;have h2:=Hd hx.2;clear H c9 c32 hx;go_wp2
      go_ret2
      exact Zxa (by rw [h1.out]) h2.out.symm
theorem Pr (s:ByteArray) (w:World) (hs:s.size≤100000):Calls Tryz.prog 120 #[.string s] w fun e w'=>e=.returned (.bool (!inkB s.data.toList))∧w=w':=by
 have H:=Hd (Zz8 s w hs)
 go_enter Tryz.func120,Tryz.ntmps120
 go_wp2_with fail
 refine H.out.mono ?_;rintro e w1 ⟨rfl,rfl⟩;go_wp2_with fail
 go_ret
 exact ⟨rfl,rfl⟩
def Zq (xs:List ByteArray):List (List UInt8):=xs.map fun x=>x.data.toList
def Uc (xs:List ByteArray) (k:Nat):Int:=(((Zq xs).drop 1).take (k - 1)).foldl stepI (-1)
theorem Q8 {xs:List ByteArray} {k:Nat} {x:ByteArray} (hk:1≤k) (hx:xs[k]? = some x):Uc xs (k+1)=stepI (Uc xs k) x.data.toList:=by
 unfold Uc;rw [show k+1 - 1=(k - 1)+1 from by omega,List.take_add_one,List.getElem?_drop,show 1+(k - 1)=k from by omega];unfold Zq;rw [List.getElem?_map,hx];simp [List.foldl_append]
theorem Cq {xs:List ByteArray} {k:Nat} (hk:xs.length≤k):Uc xs k=indentL (Zq xs):=by
 unfold Uc indentL;rw [List.take_of_length_le (by simp [Zq];omega)]
theorem Ds (xs:List ByteArray) (hx:∀ x ∈ xs,x.size≤100000):∀ k,-1≤Uc xs k∧Uc xs k≤100000:=by
 have hf:∀ (ls:List (List UInt8)) (o:Int),(∀ l ∈ ls,l.length≤100000)→-1≤o→o≤100000→-1≤ls.foldl stepI o∧ls.foldl stepI o≤100000:=by
  intro ls
  induction ls with
  | nil=>intro o _ h1 h2;exact ⟨h1,h2⟩
  | cons l ls ih =>
    intro o hl h1 h2;rw [List.foldl_cons];have:=Zkk l;have hll:=hl l (by simp);refine ih _ (fun l' hl'=>hl l' (by simp [hl'])) ?_ ?_
    · unfold stepI;split<;>omega
    · unfold stepI;split<;>omega
 intro k;refine hf _ _ (fun l hl=>?_) (by omega) (by omega);have h1:=List.mem_of_mem_take hl;have h2:=List.mem_of_mem_drop h1;obtain ⟨x,hx',rfl⟩:=List.mem_map.1 h2;have:=hx x hx';rw [Lib.size_eq] at this;exact this
theorem Zzw (A:Option Addr) (n c:Nat) (xs:List ByteArray) (w:World) (hn:n≤100000) (hz:Fk w w.heap.size A n xs) (hx:∀ x ∈ xs,x.size≤100000) :
  Calls Tryz.prog 119 #[.slice A n c] w fun e w'=>e=.returned (.int .i64 (indentL (Zq xs)))∧w=w':=by
 have HZ:=Hd hz;have HX:=Hd hx;clear hz hx
 go_enter Tryz.func119,Tryz.ntmps119
 go_wp2
 go_loopg [3,4] n (fun g out i wx=>∃ k:Nat,1≤k∧(n < k+g+1)∧i=.int .i64 k∧out=.int .i64 (Uc xs k)∧k≤n+1∧w=wx)
 case atStart=>exact ⟨1,by omega,by omega,rfl,by simp [Uc],by omega,rfl⟩
 case round =>
  obtain ⟨k,hk1,hkg,rfl,rfl,hkn,rfl⟩:=hrel;have hbd:=Ds xs HX.out k;have hbd1:=hbd.1;have hbd2:=hbd.2;clear hbd
  by_cases hlt:k < n
  · have hlt':(k:Int) < (n:Int):=by omega
    obtain ⟨x,hxk⟩:∃ x,xs[k]? = some x:=⟨_,List.getElem?_eq_getElem (by rw [HZ.out.1];omega)⟩;obtain ⟨b,o,rfl,hblt,hcell⟩:=HZ.out.2 k x hxk;have hs:=Hd (Q8 hk1 hxk);have HL:=Hd (Zz8 x w (HX.out x (List.mem_of_getElem? hxk)));have hle:=Zkk x.data.toList;have hxs:x.size≤100000:=HX.out x (List.mem_of_getElem? hxk);rw [← Lib.size_eq] at hle;clear hxk;obtain ⟨g',rfl⟩:∃ g',gk=g'+1:=⟨gk - 1,by omega⟩;generalize Uc xs k=v at *;generalize hln:leadN x.data.toList=m at *;have HM:=Hd hln;clear hln
    cases hi:inkB x.data.toList
    · have hst:Hid (Uc xs (k+1)=v):=Hd (by rw [hs.out];unfold stepI;rw [if_neg (by rw [hi];simp)])
      have HI:=Hd hi;clear hi;go_wp2_with fail
      refine HL.out.mono ?_;rintro e w1 ⟨rfl,rfl⟩;rw [HI.out];go_wp2_with fail
      go_roundg g'
      case measure=>omega
      case rel=>exact ⟨k+1,by omega,by omega,by go_num,by rw [hst.out],by omega,rfl⟩
    · have HI:=Hd hi
      by_cases hv:v < 0
      · have hst:Hid (Uc xs (k+1)=(m:Int)):=Hd (by rw [hs.out];unfold stepI;rw [HM.out,if_pos ⟨hi,.inl hv⟩])
        clear hi;go_wp2_with fail
        refine HL.out.mono ?_;rintro e w1 ⟨rfl,rfl⟩;rw [HI.out];go_wp2_with fail
        go_roundg g'
        case measure=>omega
        case rel=>exact ⟨k+1,by omega,by omega,by go_num,by rw [hst.out],by omega,rfl⟩
      · have e1:decide (v < 0)=false:=by simp;omega
        by_cases hmv:(m:Int) < v
        · have hst:Hid (Uc xs (k+1)=(m:Int)):=Hd (by rw [hs.out];unfold stepI;rw [HM.out,if_pos ⟨hi,.inr hmv⟩])
          clear hi;go_wp2_with fail
          refine HL.out.mono ?_;rintro e w1 ⟨rfl,rfl⟩;rw [HI.out];go_wp2_with fail
          go_roundg g'
          case measure=>omega
          case rel=>exact ⟨k+1,by omega,by omega,by go_num,by rw [hst.out],by omega,rfl⟩
        · have e2:decide ((m:Int) < v)=false:=by simp;omega
          have hst:Hid (Uc xs (k+1)=v):=Hd (by rw [hs.out];unfold stepI;rw [HM.out,if_neg (by rintro ⟨_,h|h⟩<;>omega)]);clear hi;go_wp2_with fail
          refine HL.out.mono ?_;rintro e w1 ⟨rfl,rfl⟩;rw [HI.out];go_wp2_with fail
          go_roundg g'
          case measure=>omega
          case rel=>exact ⟨k+1,by omega,by omega,by go_num,by rw [hst.out],by omega,rfl⟩
  · have hfin:=Hd (Cq (xs:=xs) (k:=k) (by rw [HZ.out.1];omega))
    have hlt' : ¬ (k:Int) < (n:Int):=by omega
    go_wp2
    go_ret
    exact ⟨Zjo hfin.out,rfl⟩
end Go.Proofs.YtkmloefbkgcbkaaGreatDoor.Blk
