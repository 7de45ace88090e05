/- Definitions and schemas as plain trees; the numbers of a type are any. -/
import Derived.Test.YtaekdfcpbepepaaGreatDoorQt0
import Derived.Lib.Strings
import Derived.Test.YtaekdfcpbepepaaGreatDoorChecked
import Derived.Below
import Derived.Laws.MakeOwn
import Derived.Laws.AppendOwnNone
import Derived.Laws.Rows
set_option maxRecDepth 100000
namespace Go.Proofs.YtaekdfcpbepepaaGreatDoor
open Go.RowKit
structure FieldT where
 name:ByteArray
 params:List VarT
 tn:ByteArray
 tl:Int
 tm:Int
 dirs:List DirT
structure DefnT where
 kind:Int
 name:ByteArray
 faces:List ByteArray
 fields:List FieldT
 parts:List ByteArray
 params:List VarT
structure SchT where
 defs:List DefnT
 query:ByteArray
 mutation:ByteArray
def encStr (s:ByteArray):TrS:=.cons (.one (.string s)) .nil
def encField (x:FieldT):TrS:=.cons (.one (.string x.name)) (.cons (.row (rowOf encVar x.params)) (.cons (.one (.string x.tn)) (.cons (.one (.int .i64 (x.tl:Int))) (.cons (.one (.int .i64 (x.tm:Int))) (.cons (.row (rowOf encD x.dirs)) .nil)))))
def encDefn (x:DefnT):TrS:=.cons (.one (.int .i64 x.kind)) (.cons (.one (.string x.name)) (.cons (.row (rowOf encStr x.faces)) (.cons (.row (rowOf encField x.fields)) (.cons (.row (rowOf encStr x.parts)) (.cons (.row (rowOf encVar x.params)) .nil)))))
def encSch (x:SchT):TrS:=.cons (.row (rowOf encDefn x.defs)) (.cons (.one (.string x.query)) (.cons (.one (.string x.mutation)) .nil))
def hasN (out:List ByteArray) (s:ByteArray):Bool:=out.any fun t=>t.data.toList == s.data.toList
theorem hasN_iff {out:List ByteArray} {s:ByteArray} : hasN out s=true ↔ s ∈ out:=by
 unfold hasN
 rw [List.any_eq_true]
 constructor
 · rintro ⟨t,h,e⟩
   have:t=s:=ByteArray.ext (Array.toList_inj.1 (by simpa using e))
   rwa [← this]
 · intro h
   exact ⟨s,h,by simp⟩
def addN (out:List ByteArray) (s:ByteArray):List ByteArray:=if hasN out s=true then out else out++[s]
def KS (w:World) (a3 a4 b3 b4:Value) (W:World):Prop:=W.cell? ⟨w.heap.size,3,none⟩=some a3∧W.cell? ⟨w.heap.size,4,none⟩=some a4∧W.cell? ⟨w.heap.size+1,3,none⟩=some b3∧W.cell? ⟨w.heap.size+1,4,none⟩=some b4∧Below w.heap.size w W∧w.heap.size+1 < W.heap.size
theorem KS.below {w W:World} {a3 a4 b3 b4:Value} (h:KS w a3 a4 b3 b4 W):Below w.heap.size w W:=h.2.2.2.2.1
theorem rowOf_at {α:Type} {f:α→TrS} {w:World} {P:Nat→Prop} (n:Nat) (hn:∀ a,(f a).len=n):∀ {l:List α} {A:Option Addr} {q:Nat} {x:α},RowT w P (rowOf f l) A→l[q]? = some x →
   ∃ b o cs,A=some ⟨b,o,none⟩∧P b∧(∀ j u,cs[j]? = some u→w.cell? ⟨b,o+q*n+j,none⟩=some u)∧TS w P (f x) cs
 | [],_,_,_,_,h=>by simp at h
 | a :: t,A,0,x,h,hx=>by
   obtain rfl:a=x:=by simpa using hx
   rw [rowOf] at h
   unfold RowT at h
   obtain ⟨b,o,cs,e,hb,hc,h1,_⟩:=h
   exact ⟨b,o,cs,e,hb,fun j u hj=>by rw [Nat.zero_mul,Nat.add_zero];exact hc j u hj,h1⟩
 | a :: t,A,q+1,x,h,hx=>by
   rw [rowOf] at h
   unfold RowT at h
   obtain ⟨b,o,cs,e,hb,hc,h1,h2⟩:=h
   have hx:t[q]? = some x:=by simpa using hx
   obtain ⟨b',o',cs',e',hb',hc',h1'⟩:=rowOf_at n hn h2 hx
   have e':=Option.some.inj e'
   injection e' with e1 e2 _
   subst e1 e2
   rw [hn] at hc'
   exact ⟨b,o,cs',e,hb,fun j u hj=>by rw [Nat.add_mul,Nat.one_mul,Nat.add_comm (q*n) n,← Nat.add_assoc];exact hc' j u hj,h1'⟩
theorem RowT.below {w w':World} {B:Nat} (hb:Below B w w') {l:TrL} {A:Option Addr} (h:RowT w (fun b=>b < B) l A):RowT w' (fun b=>b < B) l A:=
 RowT.keep (fun b hlt=>⟨hlt,hb.block b hlt⟩) _ _ h
theorem mat_of {w:World} {B:Nat} {m:VM} {A:Option Addr} (h:RowT w (fun b=>b < B) (encM m) A):MAt w B m A 0:=MP.at (fun _ h=>h) m A 0 (tl_mp m A 0 (by rw [Nat.zero_mul,shiftA_zero];exact h))
theorem encD_len (d:DirT):(encD d).len=2:=rfl
theorem dir_at {w:World} {B:Nat} {l:List DirT} {A:Option Addr} {q:Nat} {nm:ByteArray} {m:VM} (h:RowT w (fun b=>b < B) (rowOf encD l) A) (hx:l[q]? = some (nm,m)) :
  ∃ b o A2 k2,A=some ⟨b,o,none⟩∧b < B∧w.cell? ⟨b,o+q*2,none⟩=some (.string nm)∧w.cell? ⟨b,o+q*2+1,none⟩=some (.slice A2 m.len k2)∧m.len≤9223372036854775807∧MAt w B m A2 0:=by
 obtain ⟨b,o,cs,e,hb,hc,h1⟩:=rowOf_at 2 encD_len h hx
 simp only [encD,TS,TP] at h1
 obtain ⟨c0,_,rfl,⟨rfl,_⟩,c1,_,rfl,⟨A2,k2,rfl,hl,hM⟩,rfl⟩:=h1
 rw [encM_len] at hc hl
 exact ⟨b,o,A2,k2,e,hb,hc 0 _ rfl,hc 1 _ rfl,hl,mat_of hM⟩
def KD (w:World) (b O:Nat) (nm d:Value) (b' O':Nat) (nm' f:Value) (W:World):Prop:=
 W.cell? ⟨b,O,none⟩=some nm∧W.cell? ⟨b,O+1,none⟩=some d∧W.cell? ⟨b',O',none⟩=some nm'∧W.cell? ⟨b',O'+1,none⟩=some f∧Below w.heap.size w W
end Go.Proofs.YtaekdfcpbepepaaGreatDoor
namespace Go.Proofs.YtaekdfcpbepepaaGreatDoor.Blk
open Go.RowKit
theorem Aside.intro {p:Prop} (h:p):Aside p:=h
theorem ret_bool {a b:Bool} (h:a=b):Ending.returned (.bool a)=.returned (.bool b):=by rw [h]
theorem below_draws {B:Nat} {a w:World} (h:Below B a w) (n:Nat):Below B a (w.drewN n):=⟨h.os,h.tape,h.output,h.size,h.block⟩
theorem own_form {w:World} {base:Nat} {e:TypeId} {v:Value} {n:Nat} {xs:List Value} (h:w.ownsRow base e 1 v n xs):∃ A cap,v=.slice A n cap:=by
 rcases h.2 with ⟨hv,hn⟩|⟨g,cap,cur,hv,_⟩
 · exact ⟨none,0,by rw [hv,hn]⟩
 · exact ⟨_,_,hv⟩
def StrsAt (w:World) (B:Nat) (A:Option Addr) (n:Nat) (xs:List ByteArray):Prop:=
 xs.length=n∧∀ (j:Nat) x,xs[j]? = some x→∃ b o,A=some ⟨b,o,none⟩∧b < B∧w.cell? ⟨b,o+j,none⟩=some (.string x)
theorem StrsAt.below {w w':World} {B:Nat} {A:Option Addr} {n:Nat} {xs:List ByteArray} (h:StrsAt w B A n xs) (hb:Below B w w'):StrsAt w' B A n xs:=
 ⟨h.1,fun j z hz=>by
  obtain ⟨b,o,e,hlt,hc⟩:=h.2 j z hz
  exact ⟨b,o,e,hlt,(hb.cell (p:=⟨b,o+j,none⟩) hlt).trans hc⟩⟩
theorem StrsAt.more {w:World} {B B':Nat} {A:Option Addr} {n:Nat} {xs:List ByteArray} (h:StrsAt w B A n xs) (hB:B≤B'):StrsAt w B' A n xs:=
 ⟨h.1,fun j z hz=>by
  obtain ⟨b,o,e,hlt,hc⟩:=h.2 j z hz
  exact ⟨b,o,e,by omega,hc⟩⟩
theorem StrsAt.on {w w':World} {A:Option Addr} {n:Nat} {xs:List ByteArray} (h:StrsAt w w.heap.size A n xs) (hb:Below w.heap.size w w'):StrsAt w' w'.heap.size A n xs:=(h.below hb).more hb.size
theorem strs_of_own {w:World} {base n:Nat} {A:Option Addr} {cap:Nat} {xs:List ByteArray} (h:w.ownsRow base 9 1 (.slice A n cap) xs.length (xs.map Value.string)):n=xs.length∧StrsAt w w.heap.size A xs.length xs:=by
 rcases h.2 with ⟨hv,hn⟩|⟨g,c,cur,hv,hbase,hh,hnc,hm,hcs,htk⟩
 · injection hv with h1 h2 h3
   have hus:xs=[]:=List.eq_nil_of_length_eq_zero hn
   subst hus
   exact ⟨by simpa using h2,⟨rfl,fun j z hz=>by simp at hz⟩⟩
 · have hv':=hv
   injection hv' with h1 h2 h3
   subst h1
   refine ⟨h2,rfl,fun j z hz=>⟨g,0,rfl,?_,?_⟩⟩
   · exact (h.lt g rfl).2
   · subst h2 h3
     rw [Nat.zero_add,World.ownsRow.cellAt h j (by have:=(List.getElem?_eq_some_iff.1 hz).1;omega),List.getElem?_map,hz]
     rfl
end Go.Proofs.YtaekdfcpbepepaaGreatDoor.Blk
namespace Go.Proofs.YtaekdfcpbepepaaGreatDoor
open Go.RowKit
theorem str_row {w:World} {B:Nat} {l:List ByteArray} {A:Option Addr} (h:RowT w (fun b=>b < B) (rowOf encStr l) A):Blk.StrsAt w B A l.length l:=
 ⟨rfl,fun j x hx=>by
  obtain ⟨b,o,cs,e,hb,hc,h1⟩:=rowOf_at 1 (fun _=>rfl) h hx
  simp only [encStr,TS,TP] at h1
  obtain ⟨c0,_,rfl,⟨rfl,_⟩,rfl⟩:=h1
  have:=hc 0 _ rfl
  rw [Nat.mul_one,Nat.add_zero] at this
  exact ⟨b,o,e,hb,this⟩⟩
def StrB (l:List ByteArray):Prop:=∀ s,s ∈ l→s.size≤9223372036854775807
theorem str_bd {w:World} {P:Nat→Prop} : ∀ {l:List ByteArray} {A:Option Addr},RowT w P (rowOf encStr l) A→StrB l
 | [],_,_=>fun s h=>by simp at h
 | a :: t,A,h=>fun s hs=>by
   rw [rowOf] at h
   unfold RowT at h
   obtain ⟨b,o,cs,_,_,_,h1,h2⟩:=h
   rcases List.mem_cons.1 hs with rfl|hs
   · simp only [encStr,TS,TP] at h1
     obtain ⟨_,_,_,⟨_,hz⟩,_⟩:=h1
     exact hz
   · exact str_bd h2 s hs
theorem hasN_take {xs:List ByteArray} {s x:ByteArray} {k:Nat} (h:hasN (xs.take k) s=false) (hx:xs[k]? = some x) (hne : ¬ x=s):hasN (xs.take (k+1)) s=false:=by
 cases h':hasN (xs.take (k+1)) s with
 | false=>rfl
 | true =>
   have:=hasN_iff.1 h'
   rw [List.take_add_one,hx] at this
   rcases List.mem_append.1 this with h1|h1
   · rw [hasN_iff.2 h1] at h;cases h
   · simp at h1;exact absurd h1.symm hne
def IdxI (b:Bool) (w:World) (e:Ending) (w':World):Prop:=∃ k:Int,e=.returned (.int .i64 k)∧decide (0≤k)=b∧Below w.heap.size w w'
theorem index_s (A:Option Addr) (n c:Nat) (xs:List ByteArray) (s:ByteArray) (w:World) (hn:n≤9223372036854775807) (ha:Blk.StrsAt w w.heap.size A n xs) :
  Calls Tryz.prog 141 #[.slice A n c,.string s] w (IdxI (hasN xs s) w):=by
 have HA:=Hd ha
 clear ha
 go_enter Tryz.func141,Tryz.ntmps141
 go_wp2_with fail
 go_loopg [5,8] n (fun g _ i wx=>∃ k:Nat,k+g=n∧i=.int .i64 k∧(∃ m,w.drewN m=wx)∧Aside (hasN (xs.take k) s=false))
 case atStart=>exact ⟨0,by omega,rfl,⟨0,rfl⟩,Blk.Aside.intro (by rw [List.take_zero];rfl)⟩
 case round =>
  obtain ⟨k,hk,rfl,⟨m,rfl⟩,H⟩:=hrel
  cases gk with
  | zero =>
    obtain rfl:k=n:=by omega
    have hd:Hid (hasN xs s=false):=Hd (by
      have h:=H.out
      rwa [List.take_of_length_le (by rw [HA.out.1];omega)] at h)
    clear H
    go_wp2_with fail
    go_ret
    exact ⟨-1,rfl,by rw [hd.out];rfl,Blk.below_draws (Below.refl _ _) m⟩
  | succ g =>
    have hlt:k < n:=by omega
    have hlt':(k:Int) < (n:Int):=by omega
    obtain ⟨x,hx⟩:∃ x,xs[k]? = some x:=⟨_,List.getElem?_eq_getElem (by rw [HA.out.1];omega)⟩
    obtain ⟨b1,o1,rfl,hl1,c1⟩:=HA.out.2 k x hx
    have HX:=Hd hx
    clear hx
    by_cases hxy:x=s
    · subst hxy
      have e1':(x.toList == x.toList)=true:=by simp
      have hT:Hid (hasN xs x=true):=Hd (hasN_iff.2 (List.mem_of_getElem? HX.out))
      clear H
      go_wp2_with fail
      go_ret
      exact ⟨(k:Int),rfl,by rw [hT.out];simp,Blk.below_draws (Below.refl _ _) _⟩
    · have hne:x.toList ≠ s.toList:=fun h=>hxy (by
       rw [Lib.toList_data,Lib.toList_data] at h
       exact ByteArray.ext (Array.toList_inj.1 h))
      have e1':(x.toList == s.toList)=false:=by simpa using hne
      have e2':(s.toList == x.toList)=false:=by simpa using fun h=>hne h.symm
      clear hne
      have hT:=Hd (hasN_take H.out HX.out hxy)
      clear H hxy
      go_wp2_with fail
      go_roundg g
      case measure=>omega
      case rel=>exact ⟨k+1,by omega,by go_num,⟨_,rfl⟩,Blk.Aside.intro hT.out⟩
theorem contains_s (A:Option Addr) (n c:Nat) (xs:List ByteArray) (s:ByteArray) (w:World) (hn:n≤9223372036854775807) (ha:Blk.StrsAt w w.heap.size A n xs) :
  Calls Tryz.prog 86 #[.slice A n c,.string s] w fun e w'=>e=.returned (.bool (hasN xs s))∧Below w.heap.size w w':=by
 have C:=Hd (index_s A n c xs s w hn ha)
 clear ha hn
 go_enter Tryz.func86,Tryz.ntmps86
 go_wp2_with fail
 refine C.out.mono ?_
 rintro e w1 ⟨k,rfl,hk,hb⟩
 have HB:=Hd hb
 have HK:=Hd hk
 clear hk hb
 go_wp2_with fail
 go_ret
 exact ⟨Blk.ret_bool HK.out,HB.out⟩
def IntsAt (w:World) (B:Nat) (A:Option Addr) (l:List Int):Prop:=∀ (j:Nat) x,l[j]? = some x→∃ b o,A=some ⟨b,o,none⟩∧b < B∧w.cell? ⟨b,o+j,none⟩=some (.int .i64 x)
theorem IntsAt.below {w w':World} {B:Nat} {A:Option Addr} {l:List Int} (h:IntsAt w B A l) (hb:Below B w w'):IntsAt w' B A l:=
 fun j z hz=>by
  obtain ⟨b,o,e,hlt,hc⟩:=h j z hz
  exact ⟨b,o,e,hlt,(hb.cell (p:=⟨b,o+j,none⟩) hlt).trans hc⟩
def hasI (l:List Int) (x:Int):Bool:=l.any fun y=>y == x
theorem hasI_take {xs:List Int} {s x:Int} {k:Nat} (h:hasI (xs.take k) s=false) (hx:xs[k]? = some x) (hne : ¬ x=s):hasI (xs.take (k+1)) s=false:=by
 unfold hasI at h ⊢
 rw [List.take_add_one,hx,List.any_append,h]
 simpa using hne
theorem hasI_mem {xs:List Int} {k:Nat} {x:Int} (h:xs[k]? = some x):hasI xs x=true:=by
 unfold hasI
 rw [List.any_eq_true]
 exact ⟨x,List.mem_of_getElem? h,by simp⟩
theorem index_i (A:Option Addr) (n c:Nat) (xs:List Int) (s:Int) (w:World) (hn:n≤9223372036854775807) (hl:xs.length=n) (ha:IntsAt w w.heap.size A xs) :
  Calls Tryz.prog 138 #[.slice A n c,.int .i64 s] w (IdxI (hasI xs s) w):=by
 have HA:=Hd ha
 have HL:=Hd hl
 clear ha hl
 go_enter Tryz.func138,Tryz.ntmps138
 go_wp2_with fail
 go_loopg [5,8] n (fun g _ i wx=>∃ k:Nat,k+g=n∧i=.int .i64 k∧(∃ m,w.drewN m=wx)∧Aside (hasI (xs.take k) s=false))
 case atStart=>exact ⟨0,by omega,rfl,⟨0,rfl⟩,Blk.Aside.intro (by rw [List.take_zero];rfl)⟩
 case round =>
  obtain ⟨k,hk,rfl,⟨m,rfl⟩,H⟩:=hrel
  cases gk with
  | zero =>
    obtain rfl:k=n:=by omega
    have hd:Hid (hasI xs s=false):=Hd (by
      have h:=H.out
      rwa [List.take_of_length_le (by rw [HL.out];omega)] at h)
    clear H
    go_wp2_with fail
    go_ret
    exact ⟨-1,rfl,by rw [hd.out];rfl,Blk.below_draws (Below.refl _ _) m⟩
  | succ g =>
    have hlt:k < n:=by omega
    have hlt':(k:Int) < (n:Int):=by omega
    obtain ⟨x,hx⟩:∃ x,xs[k]? = some x:=⟨_,List.getElem?_eq_getElem (by rw [HL.out];omega)⟩
    obtain ⟨b1,o1,rfl,hl1,c1⟩:=HA.out k x hx
    have HX:=Hd hx
    clear hx
    by_cases hxy:x=s
    · subst hxy
      have e1':(x == x)=true:=by simp
      have hT:Hid (hasI xs x=true):=Hd (hasI_mem HX.out)
      clear H
      go_wp2_with fail
      go_ret
      exact ⟨(k:Int),rfl,by rw [hT.out];simp,Blk.below_draws (Below.refl _ _) _⟩
    · have e1':(x == s)=false:=by simpa using hxy
      have e2':(s == x)=false:=by simpa using fun h=>hxy h.symm
      have hT:=Hd (hasI_take H.out HX.out hxy)
      clear H hxy
      go_wp2_with fail
      go_roundg g
      case measure=>omega
      case rel=>exact ⟨k+1,by omega,by go_num,⟨_,rfl⟩,Blk.Aside.intro hT.out⟩
theorem contains_i (A:Option Addr) (n c:Nat) (xs:List Int) (s:Int) (w:World) (hn:n≤9223372036854775807) (hl:xs.length=n) (ha:IntsAt w w.heap.size A xs) :
  Calls Tryz.prog 83 #[.slice A n c,.int .i64 s] w fun e w'=>e=.returned (.bool (hasI xs s))∧Below w.heap.size w w':=by
 have C:=Hd (index_i A n c xs s w hn hl ha)
 clear ha hn hl
 go_enter Tryz.func83,Tryz.ntmps83
 go_wp2_with fail
 refine C.out.mono ?_
 rintro e w1 ⟨k,rfl,hk,hb⟩
 have HB:=Hd hb
 have HK:=Hd hk
 clear hk hb
 go_wp2_with fail
 go_ret
 exact ⟨Blk.ret_bool HK.out,HB.out⟩
def VT.zero:VT:=.mk 0 0 ⟨#[]⟩ .nil .nil
def getM:VM→ByteArray→VT × Bool
 | .nil,_=>(.zero,false)
 | .cons nm v t,s=>if nm=s then (v,true) else getM t s
def VM.drop:VM→Nat→VM
 | m,0=>m
 | .nil,_+1=>.nil
 | .cons _ _ t,j+1=>t.drop j
theorem VM.drop_get:∀ {m:VM} {j:Nat} {nm:ByteArray} {v:VT},m.get j=some (nm,v)→m.drop j=.cons nm v (m.drop (j+1))
 | .nil,_,_,_,h=>by simp [VM.get] at h
 | .cons x u t,0,nm,v,h=>by
   have:x=nm∧u=v:=by simpa [VM.get] using h
   obtain ⟨rfl,rfl⟩:=this
   cases t<;>rfl
 | .cons x u t,j+1,nm,v,h=>by
   have:=VM.drop_get (m:=t) (j:=j) (nm:=nm) (v:=v) h
   exact this
theorem VM.drop_all:∀ (m:VM),m.drop m.len=.nil
 | .nil=>rfl
 | .cons _ _ t=>VM.drop_all t
theorem VM.drop_zero (m:VM):m.drop 0=m:=by cases m<;>rfl
theorem zeroAt (w:World) (B:Nat):VAt w B .zero (.int .i64 0) (.int .i64 0) (.string ⟨#[]⟩) (.slice none 0 0) (.slice none 0 0):=by
 unfold VT.zero VAt
 exact ⟨rfl,rfl,rfl,Nat.zero_le _,⟨none,0,rfl,by simp [VL.len],by unfold LAt;trivial⟩,none,0,rfl,by simp [VM.len],by unfold MAt;trivial⟩
theorem ret_v2 {R:Ending→World→Prop} {fn:Func} {a:Act} {W:World} {c0 c1 c2 c3 c4:Value} {p u b:Nat} (hf:fn.results=#[.cell p 58,.tmp u]) (h2:a.tmps.getD p undef=.pointer (some ⟨b,0,none⟩)) (hd:a.defers=[])
  (hc:W.heap[b]? = some (.cells #[c0,c1,c2,c3,c4] 58 (0,0))) (hR:R (.returned (.tuple #[.agg #[c0,c1,c2,c3,c4],a.tmps.getD u undef])) W):bodyPost Tryz.prog fn R .ret a W:=by
 have hl:(loadVar 58 ⟨b,0,none⟩).run Tryz.prog W=.ok (.agg #[c0,c1,c2,c3,c4]) W:=
  run_loadVar_row W b 58 58 #[c0,c1,c2,c3,c4] (0,0) _ hc Tryz.underlying58 rfl (by kernel_rfl)
 refine bodyPost_ret ?_ hd hR
 have h2':a.tmps[p]?.getD undef=.pointer (some ⟨b,0,none⟩):=by rw [← h2];simp
 simp [results,hf,h2',asAddr,hl]
theorem got {B:Nat} {w w':World} {x:VT × Bool} {c0 c1 c2 c3 c4:Value} {b:Bool} (hb:b=x.2) (h:VAt w' B x.1 c0 c1 c2 c3 c4) (hw:Below w.heap.size w w') :
 ∃ d0 d1 d2 d3 d4,Ending.returned (.tuple #[.agg #[c0,c1,c2,c3,c4],.bool b])=.returned (.tuple #[.agg #[d0,d1,d2,d3,d4],.bool x.2])∧VAt w' B x.1 d0 d1 d2 d3 d4∧Below w.heap.size w w':=⟨c0,c1,c2,c3,c4,by rw [hb],h,hw⟩
end Go.Proofs.YtaekdfcpbepepaaGreatDoor
