/- Plain facts on lines of bytes, of no program: lines, how far they stand in, what a block says. -/
import Derived.Lib.Strings
import Derived.Test.YtkacnnhdfkpenaaGreatDoorChecked
import Derived.WalkKit
import Derived.Deep.LoopGhost
import Derived.Below
import Derived.Lib.Hide
import Derived.Laws.AppendOwn
import Derived.Laws.MakeOwn
import Derived.Laws.AppendOwnNone
import Derived.Deep.AppendLies
import Derived.Deep.QuietTactic
import Derived.BigQuiet
import Derived.Deep.Draws
namespace Go.Proofs.YtkacnnhdfkpenaaGreatDoor
theorem Hd {p:Prop} (h:p):Go.RowKit.Hid p:=Go.Lib.hid h
theorem stT {a:List Value} {i:Nat} {x:Value} : a.toArray.setIfInBounds i x=(a.set i x).toArray:=by simp
theorem stZ {x y:Value} {a:List Value} : (x :: a).set 0 y=y :: a:=rfl
theorem stS {x y:Value} {a:List Value} {i:Nat} : (x :: a).set (i+1) y=x :: a.set i y:=rfl
end Go.Proofs.YtkacnnhdfkpenaaGreatDoor
namespace Go.Proofs.YtkacnnhdfkpenaaGreatDoor.Blk
def eolB (c:UInt8):Bool:=c == 10 || c == 13
def firstL (l:List UInt8):List UInt8:=l.takeWhile fun c=>!eolB c
def afterL (l:List UInt8):Option (List UInt8):=
 match l.dropWhile fun c=>!eolB c with
 | []=>none
 | c :: t=>if c=13 then (match t with|d :: t'=>if d=10 then some t' else some t|[]=>some t) else some t
def linesF:Nat→List UInt8→List (List UInt8)
 | 0,l=>[l]
 | n+1,l=>firstL l :: (match afterL l with|none=>[]|some t=>linesF n t)
def linesL (l:List UInt8):List (List UInt8):=linesF (l.length+1) l
theorem dropWhile_len (p:UInt8→Bool):∀ l:List UInt8,(l.dropWhile p).length≤l.length:=by
 intro l
 induction l with
 | nil=>simp
 | cons c t ih=>rw [List.dropWhile_cons];split<;>simp<;>omega
theorem afterL_len {l t:List UInt8} (h:afterL l=some t):t.length < l.length:=by
 unfold afterL at h
 have hl:=dropWhile_len (fun c=>!eolB c) l
 split at h
 · cases h
 · rename_i c r hd
   rw [hd] at hl
   simp only [List.length_cons] at hl
   split at h
   · split at h
     · split at h
       · cases h;simp only [List.length_cons] at hl;omega
       · cases h;simp only [List.length_cons] at hl ⊢;omega
     · cases h;simp only [List.length_nil] at hl ⊢;omega
   · cases h;omega
theorem linesF_enough:∀ (n m:Nat) (l:List UInt8),l.length < n→l.length < m→linesF n l=linesF m l:=by
 intro n
 induction n with
 | zero=>intro m l h;omega
 | succ n ih =>
   intro m l hn hm
   cases m with
   | zero=>omega
   | succ m =>
     simp only [linesF]
     cases ha:afterL l with
     | none=>rfl
     | some t =>
       have:=afterL_len ha
       simp only
       rw [ih m t (by omega) (by omega)]
theorem linesL_eq (l:List UInt8):linesL l=firstL l :: (match afterL l with|none=>[]|some t=>linesL t):=by
 show linesF (l.length+1) l=_
 simp only [linesF]
 cases ha:afterL l with
 | none=>rfl
 | some t =>
   have:=afterL_len ha
   simp only [linesL]
   rw [linesF_enough l.length (t.length+1) t (by omega) (by omega)]
def plainL (l:List UInt8):Prop:=∀ c ∈ l,eolB c=false
theorem takeWhile_plain {a:List UInt8} (h:plainL a) (r:List UInt8):(a++r).takeWhile (fun c=>!eolB c)=a++r.takeWhile (fun c=>!eolB c):=by
 induction a with
 | nil=>rfl
 | cons c a ih =>
   have hc:=h c (by simp)
   rw [List.cons_append,List.takeWhile_cons,hc,List.cons_append]
   simp only [Bool.not_false,if_true]
   rw [ih (fun d hd=>h d (by simp [hd]))]
theorem dropWhile_plain {a:List UInt8} (h:plainL a) (r:List UInt8):(a++r).dropWhile (fun c=>!eolB c)=r.dropWhile (fun c=>!eolB c):=by
 induction a with
 | nil=>rfl
 | cons c a ih =>
   have hc:=h c (by simp)
   rw [List.cons_append,List.dropWhile_cons,hc]
   simp only [Bool.not_false,if_true]
   exact ih (fun d hd=>h d (by simp [hd]))
theorem linesL_one {a:List UInt8} (h:plainL a):linesL a=[a]:=by
 have h1:=takeWhile_plain h []
 have h2:=dropWhile_plain h []
 rw [List.append_nil] at h1 h2
 rw [linesL_eq]
 unfold firstL afterL
 rw [h1,h2]
 simp
theorem linesL_ten {a r:List UInt8} (h:plainL a):linesL (a++10 :: r)=a :: linesL r:=by
 rw [linesL_eq]
 unfold firstL afterL
 rw [takeWhile_plain h,dropWhile_plain h]
 simp [eolB]
theorem linesL_both {a r:List UInt8} (h:plainL a):linesL (a++13 :: 10 :: r)=a :: linesL r:=by
 rw [linesL_eq]
 unfold firstL afterL
 rw [takeWhile_plain h,dropWhile_plain h]
 simp [eolB]
theorem linesL_cr {a r:List UInt8} (h:plainL a) (hr:r.head? ≠ some 10):linesL (a++13 :: r)=a :: linesL r:=by
 rw [linesL_eq]
 unfold firstL afterL
 rw [takeWhile_plain h,dropWhile_plain h]
 cases r with
 | nil=>simp [eolB]
 | cons d r =>
   have hd:d ≠ 10:=fun e=>hr (by rw [e];rfl)
   simp [eolB,hd]
theorem linesL_ne (l:List UInt8):linesL l ≠ []:=by rw [linesL_eq];simp
def blankB (c:UInt8):Bool:=c == 9 || c == 32
def leadN (l:List UInt8):Nat:=(l.takeWhile blankB).length
def inkB (l:List UInt8):Bool:=l.any fun c=>!blankB c
def stepI (out:Int) (x:List UInt8):Int:=if inkB x=true∧(out < 0∨(leadN x:Int) < out) then (leadN x:Int) else out
def indentL (ls:List (List UInt8)):Int:=(ls.drop 1).foldl stepI (-1)
def cutL (n:Nat):List (List UInt8)→List (List UInt8)
 | []=>[]
 | x :: t=>x :: t.map (List.drop n)
def frontL (ls:List (List UInt8)):List (List UInt8):=ls.dropWhile fun x=>!inkB x
def trimL (ls:List (List UInt8)):List (List UInt8):=(frontL (frontL ls).reverse).reverse
def joinTen:List (List UInt8)→List UInt8
 | []=>[]
 | [x]=>x
 | x :: y :: t=>x++10 :: joinTen (y :: t)
def shownL (raw:List UInt8):List (List UInt8):=trimL (cutL (max (indentL (linesL raw)) 0).toNat (linesL raw))
def valueL (raw:List UInt8):List UInt8:=joinTen (shownL raw)
open Go.RowKit
theorem Aside.intro {p:Prop} (h:p):Aside p:=h
theorem ret_bool {a b:Bool} (h:a=b):Ending.returned (.bool a)=.returned (.bool b):=by rw [h]
theorem ret_int {a b:Int} (h:a=b):Ending.returned (.int .i64 a)=.returned (.int .i64 b):=by rw [h]
theorem ret_str {a b:ByteArray} (h:a=b):Ending.returned (.string a)=.returned (.string b):=by rw [h]
theorem own_form {w:World} {base:Nat} {e:TypeId} {v:Value} {n:Nat} {xs:List Value} (h:w.ownsRow base e 1 v n xs):∃ A cap,v=.slice A n cap:=by
 rcases h.2 with ⟨hv,hn⟩|⟨g,cap,cur,hv,_⟩
 · exact ⟨none,0,by rw [hv,hn]⟩
 · exact ⟨_,_,hv⟩
def StrsAt (w:World) (B:Nat) (A:Option Addr) (n:Nat) (xs:List ByteArray):Prop:=
 xs.length=n∧∀ (j:Nat) x,xs[j]? = some x→∃ b o,A=some ⟨b,o,none⟩∧b < B∧w.cell? ⟨b,o+j,none⟩=some (.string x)
theorem StrsAt.below {w w':World} {B:Nat} {A:Option Addr} {n:Nat} {xs:List ByteArray} (h:StrsAt w B A n xs) (hb:Below B w w'):StrsAt w' B A n xs:=
 ⟨h.1,fun j z hz=>by
  obtain ⟨b,o,e,hlt,hc⟩:=h.2 j z hz
  exact ⟨b,o,e,hlt,(hb.cell (p:=⟨b,o+j,none⟩) hlt).trans hc⟩⟩
theorem strs_of_own {w:World} {base n:Nat} {A:Option Addr} {cap:Nat} {xs:List ByteArray} (h:w.ownsRow base 9 1 (.slice A n cap) xs.length (xs.map Value.string)):n=xs.length∧StrsAt w w.heap.size A xs.length xs:=by
 rcases h.2 with ⟨hv,hn⟩|⟨g,c,cur,hv,hbase,hh,hnc,hm,hcs,htk⟩
 · injection hv with h1 h2 h3
   have hus:xs=[]:=List.eq_nil_of_length_eq_zero hn
   subst hus
   exact ⟨by simpa using h2,⟨rfl,fun j z hz=>by simp at hz⟩⟩
 · have hv':=hv
   injection hv' with h1 h2 h3
   subst h1
   refine ⟨h2,rfl,fun j z hz=>⟨g,0,rfl,?_,?_⟩⟩
   · exact (h.lt g rfl).2
   · subst h2 h3
     rw [Nat.zero_add,World.ownsRow.cellAt h j (by have:=(List.getElem?_eq_some_iff.1 hz).1;omega),List.getElem?_map,hz]
     rfl
def linesB (l:List UInt8):List ByteArray:=(linesL l).map fun x=>⟨x.toArray⟩
theorem ne_lit {b c:UInt8} (h:b ≠ c):(b.toNat:Int) ≠ (c.toNat:Int):=fun e=>h (UInt8.toNat_inj.1 (by omega))
theorem beq_ne {b:UInt8} {z:Int} (h:(b.toNat:Int) ≠ z):((b.toNat:Int) == z)=false:=by simp [h]
theorem bne_ne {b:UInt8} {z:Int} (h:(b.toNat:Int) ≠ z):((b.toNat:Int) != z)=true:=by simp [h]
theorem drop_at (s:ByteArray) (f k:Nat) (hf:f≤k) (hk:k < s.size):s.data.toList.drop f=(s.data.toList.drop f).take (k - f)++s[k] :: s.data.toList.drop (k+1):=by
 have hl:s.data.toList.length=s.size:=Array.length_toList
 have e:=(List.take_append_drop (k - f) (s.data.toList.drop f)).symm
 rw [List.drop_drop,show f+(k - f)=k from by omega,List.drop_eq_getElem_cons (i:=k) (by omega)] at e
 exact e
theorem plain_more {s:ByteArray} {f k:Nat} (hf:f≤k) (hk:k < s.size) (h:plainL ((s.data.toList.drop f).take (k - f))) (hc:eolB s[k]=false):plainL ((s.data.toList.drop f).take (k+1 - f)):=by
 have hl:s.data.toList.length=s.size:=Array.length_toList
 have e:(s.data.toList.drop f).take (k+1 - f)=(s.data.toList.drop f).take (k - f)++[s[k]]:=by
   rw [show k+1 - f=(k - f)+1 from by omega,List.take_add_one,List.getElem?_drop,show f+(k - f)=k from by omega,List.getElem?_eq_getElem (by omega)]
   rfl
 rw [e]
 intro c hc'
 rw [List.mem_append] at hc'
 rcases hc' with h'|h'
 · exact h c h'
 · simp only [List.mem_cons,List.not_mem_nil,or_false] at h'
   rw [h'];exact hc
def LinesTo (s:ByteArray) (f k:Nat) (done:List ByteArray):Prop:=done++linesB (s.data.toList.drop f)=linesB s.data.toList∧plainL ((s.data.toList.drop f).take (k - f))
theorem mk_of {S:ByteArray} {a:List UInt8} (h:S.data.toList=a):(⟨a.toArray⟩:ByteArray)=S:=by subst h;simp
theorem extract_list (s:ByteArray) (f k:Nat):(s.extract f k).data.toList=(s.data.toList.drop f).take (k - f):=by
 rw [ByteArray.data_extract,Array.toList_extract,List.extract]
theorem LinesTo.ten {s:ByteArray} {f k:Nat} {done:List ByteArray} (h:LinesTo s f k done) (hf:f≤k) (hk:k < s.size) (hc:s[k]=10):LinesTo s (k+1) (k+1) (done++[s.extract f k]):=by
 obtain ⟨h1,h2⟩:=h
 rw [drop_at s f k hf hk,hc] at h1
 unfold linesB at h1
 rw [linesL_ten h2,List.map_cons,mk_of (extract_list s f k)] at h1
 exact ⟨by unfold linesB;rw [← h1];simp,by simp [plainL]⟩
theorem LinesTo.both {s:ByteArray} {f k:Nat} {done:List ByteArray} (h:LinesTo s f k done) (hf:f≤k) (hk:k+1 < s.size) (hc:s[k]=13) (hd:s[k+1]=10):LinesTo s (k+2) (k+2) (done++[s.extract f k]):=by
 obtain ⟨h1,h2⟩:=h
 have hl:s.data.toList.length=s.size:=Array.length_toList
 have e:s.data.toList.drop (k+1)=s[k+1] :: s.data.toList.drop (k+2):=List.drop_eq_getElem_cons (by omega)
 rw [drop_at s f k hf (by omega),hc,e,hd] at h1
 unfold linesB at h1
 rw [linesL_both h2,List.map_cons,mk_of (extract_list s f k)] at h1
 exact ⟨by unfold linesB;rw [← h1];simp,by simp [plainL]⟩
theorem LinesTo.cr {s:ByteArray} {f k:Nat} {done:List ByteArray} (h:LinesTo s f k done) (hf:f≤k) (hk:k < s.size) (hc:s[k]=13) (hd:∀ (h:k+1 < s.size),s[k+1] ≠ 10):LinesTo s (k+1) (k+1) (done++[s.extract f k]):=by
 obtain ⟨h1,h2⟩:=h
 have hl:s.data.toList.length=s.size:=Array.length_toList
 have hr:(s.data.toList.drop (k+1)).head? ≠ some 10:=by
  rw [List.head?_drop]
  by_cases hk1:k+1 < s.size
  · rw [List.getElem?_eq_getElem (by omega)]
    intro e
    injection e with e
    exact hd hk1 e
  · rw [List.getElem?_eq_none (by omega)]
    intro e;cases e
 rw [drop_at s f k hf hk,hc] at h1
 unfold linesB at h1
 rw [linesL_cr h2 hr,List.map_cons,mk_of (extract_list s f k)] at h1
 exact ⟨by unfold linesB;rw [← h1];simp,by simp [plainL]⟩
theorem LinesTo.done {s:ByteArray} {f:Nat} {done:List ByteArray} (h:LinesTo s f s.size done):linesB s.data.toList=done++[s.extract f s.size]:=by
 obtain ⟨h1,h2⟩:=h
 have hl:s.data.toList.length=s.size:=Array.length_toList
 rw [List.take_of_length_le (by rw [List.length_drop];omega)] at h2
 rw [← h1]
 unfold linesB
 rw [linesL_one h2]
 have:=mk_of (extract_list s f s.size)
 rw [List.take_of_length_le (by rw [List.length_drop];omega)] at this
 simp [this]
theorem info_str:∃ i0,Tryz.prog.info? 9=some i0∧i0.zero=some (.string ByteArray.empty)∧i0.size=1∧i0.bytes=16:=by
 have hi9:(Tryz.prog.info? 9).map (fun i=>(i.zero,i.size,i.bytes))=some (some (.string ByteArray.empty),1,16):=by kernel_rfl
 obtain ⟨i0,hi,hx⟩:=Option.map_eq_some_iff.1 hi9
 simp only [Prod.mk.injEq] at hx
 exact ⟨i0,hi,hx.1,hx.2.1,hx.2.2⟩
theorem lead_at {l:List UInt8} {k:Nat} {c:UInt8} (h:(l.take k).all blankB=true) (hc:l[k]? = some c) (hn:blankB c=false):leadN l=k∧inkB l=true:=by
 obtain ⟨hk,rfl⟩:=List.getElem?_eq_some_iff.1 hc
 have e:l=l.take k++l[k] :: l.drop (k+1):=by rw [← List.drop_eq_getElem_cons hk,List.take_append_drop]
 have hl:(l.take k).length=k:=by rw [List.length_take];omega
 constructor
 · unfold leadN
   have ht:∀ (a r:List UInt8) (d:UInt8),a.all blankB=true→blankB d=false→(a++d :: r).takeWhile blankB=a:=by
    intro a r d ha hd
    induction a with
    | nil=>simp [hd]
    | cons x a ih =>
      rw [List.all_cons,Bool.and_eq_true] at ha
      rw [List.cons_append,List.takeWhile_cons,ha.1]
      simp only [if_true]
      rw [ih ha.2]
   rw [e,ht _ _ _ h hn,hl]
 · unfold inkB
   rw [List.any_eq_true]
   exact ⟨l[k],List.getElem_mem hk,by simp [hn]⟩
theorem lead_end {l:List UInt8} (h:l.all blankB=true):leadN l=l.length∧inkB l=false:=by
 constructor
 · unfold leadN
   have ht:∀ (a:List UInt8),a.all blankB=true→a.takeWhile blankB=a:=by
    intro a ha
    induction a with
    | nil=>rfl
    | cons x a ih =>
      rw [List.all_cons,Bool.and_eq_true] at ha
      rw [List.takeWhile_cons,ha.1]
      simp only [if_true]
      rw [ih ha.2]
   rw [ht l h]
 · unfold inkB
   rw [List.any_eq_false]
   intro c hc
   have:=List.all_eq_true.1 h c hc
   simp [this]
theorem leadN_le (l:List UInt8):leadN l≤l.length:=by
 unfold leadN
 induction l with
 | nil=>simp
 | cons c t ih=>rw [List.takeWhile_cons];split<;>simp<;>omega
theorem blank_more {s:ByteArray} {k:Nat} (hk:k < s.size) (h:(s.data.toList.take k).all blankB=true) (hc:blankB s[k]=true):(s.data.toList.take (k+1)).all blankB=true:=by
 have hl:s.data.toList.length=s.size:=Array.length_toList
 rw [List.take_add_one,List.getElem?_eq_getElem (by omega),List.all_append,h]
 simp only [Option.toList,List.all_cons,List.all_nil,Bool.and_true,Bool.true_and]
 exact hc
def bytesL (xs:List ByteArray):List (List UInt8):=xs.map fun x=>x.data.toList
def indTo (xs:List ByteArray) (k:Nat):Int:=(((bytesL xs).drop 1).take (k - 1)).foldl stepI (-1)
theorem indTo_succ {xs:List ByteArray} {k:Nat} {x:ByteArray} (hk:1≤k) (hx:xs[k]? = some x):indTo xs (k+1)=stepI (indTo xs k) x.data.toList:=by
 unfold indTo
 rw [show k+1 - 1=(k - 1)+1 from by omega,List.take_add_one,List.getElem?_drop,show 1+(k - 1)=k from by omega]
 unfold bytesL
 rw [List.getElem?_map,hx]
 simp [List.foldl_append]
theorem indTo_all {xs:List ByteArray} {k:Nat} (hk:xs.length≤k):indTo xs k=indentL (bytesL xs):=by
 unfold indTo indentL
 rw [List.take_of_length_le (by simp [bytesL];omega)]
theorem indTo_bd (xs:List ByteArray) (hx:∀ x ∈ xs,x.size≤100000):∀ k,-1≤indTo xs k∧indTo xs k≤100000:=by
 have hf:∀ (ls:List (List UInt8)) (o:Int),(∀ l ∈ ls,l.length≤100000)→-1≤o→o≤100000→-1≤ls.foldl stepI o∧ls.foldl stepI o≤100000:=by
  intro ls
  induction ls with
  | nil=>intro o _ h1 h2;exact ⟨h1,h2⟩
  | cons l ls ih =>
    intro o hl h1 h2
    rw [List.foldl_cons]
    have:=leadN_le l
    have hll:=hl l (by simp)
    refine ih _ (fun l' hl'=>hl l' (by simp [hl'])) ?_ ?_
    · unfold stepI;split<;>omega
    · unfold stepI;split<;>omega
 intro k
 refine hf _ _ (fun l hl=>?_) (by omega) (by omega)
 have h1:=List.mem_of_mem_take hl
 have h2:=List.mem_of_mem_drop h1
 obtain ⟨x,hx',rfl⟩:=List.mem_map.1 h2
 have:=hx x hx'
 rw [Lib.size_eq] at this
 exact this
end Go.Proofs.YtkacnnhdfkpenaaGreatDoor.Blk
