/- Rows of definitions put together by append; a schema's definitions turned; an enum more. -/
import Derived.Deep.AppendLies
import Derived.Test.YtaekdfcpbepepaaGreatDoorRtScGrow
namespace Go.Proofs.YtaekdfcpbepepaaGreatDoor
open Go.RowKit
theorem cinfo_dfn:∃ i z,Tryz.prog.info? 37=some i∧i.zero=some z∧i.size=6∧i.bytes=120∧z.cells.size=6:=info_of (by kernel_rfl)
theorem len_dfn (x:DefnT):(encDefn x).len=6:=rfl
theorem one_dfn (x:DefnT):oneS (encDefn x)=true:=by unfold encDefn;simp [oneS,Value.oneCell']
structure KSB (w:World) (cs:Array Value) (W:World):Prop where
 low:Below w.heap.size w W
 box:W.heap[w.heap.size]? = some (.cells cs 24 (0,0))
theorem KSB.next {w W W':World} {cs:Array Value} (h:KSB w cs W) (hb:Below W.heap.size W W'):KSB w cs W':=
 ⟨h.low.trans (hb.mono h.low.size),(hb.block _ (Array.getElem?_eq_some_iff.1 h.box).1).trans h.box⟩
theorem KSB.lt {w W:World} {cs:Array Value} (h:KSB w cs W):w.heap.size < W.heap.size:=(Array.getElem?_eq_some_iff.1 h.box).1
theorem g_cells {α:Type} {f:α→TrS} {w:World} {P:Nat→Prop} {l:List α} {A:Option Addr} (h:RowT w P (rowOf f l) A) :
   ∃ xs,TLV w P (rowOf f l) xs∧∀ (j:Nat) u,xs[j]? = some u→∃ b o,A=some ⟨b,o,none⟩∧w.cell? ⟨b,o+j,none⟩=some u:=by
 cases l with
 | nil=>exact ⟨[],rfl,fun j u hj=>by simp at hj⟩
 | cons a t =>
   obtain ⟨b,o,rfl⟩:=row_some h
   obtain ⟨xs,h1,h2⟩:=row_news h
   exact ⟨xs,h1,fun j u hj=>⟨b,o,rfl,h2 j u hj⟩⟩
theorem g_tlv {α:Type} {f:α→TrS} {w:World} {P:Nat→Prop} {m:List α} {ys:List Value} (hm:TLV w P (rowOf f m) ys):∀ {l:List α} {xs:List Value},TLV w P (rowOf f l) xs→TLV w P (rowOf f (l++m)) (xs++ys)
 | [],xs,h=>by
   have:xs=[]:=h
   subst this
   exact hm
 | a :: t,xs,h=>by
   obtain ⟨cs,zs,rfl,h1,h2⟩:=h
   exact ⟨cs,zs++ys,by simp,h1,g_tlv hm h2⟩
theorem g_append {P:Program} {w:World} {ops:Array Oper} {rest:List Oper} {o:Oper} {a:Act} {Q:Exit→Act→World→Prop} (hgd:o.guard=none) (s x:Operand) (t:TypeId)
   (ho:o.op=.call { callee:=.builtin .append,args:=#[s,x],argTypes:=#[t,t] })
   (base:Nat) (e:TypeId) (i:TypeInfo) (z:Value) (size bytes:Nat) (ht:P.underlying t=some (.slice e)) (hi:P.info? e=some i) (hz:i.zero=some z)
   (hsize:i.size=size) (hby:i.bytes=bytes) (hzs:z.cells.size=size) (hsz:0 < size)
   (v:Value) (n:Nat) (xs:List Value) (hs:a.eval s=v) (hown:w.ownsRow base e size v n xs)
   (A:Option Addr) (m c:Nat) (news:List Value) (hx:a.eval x=.slice A m c) (hl:news.length=m*size) (hnews:∀ (j:Nat) u,news[j]? = some u→∃ b o,A=some ⟨b,o,none⟩∧w.cell? ⟨b,o+j,none⟩=some u) (h1:∀ u ∈ news,u.oneCell'=true)
   (h63:n+m≤maxLen) (hbytes:(n+m)*bytes≤140737488355328) (hbase:base≤w.heap.size)
   (h:∀ v' w',w'.ownsRow base e size v' (n+m) (xs++news)→w.grownBy w' v.ownBlock→wpList P ops Q rest (a.put o.dst v') w'):wpList P ops Q (o :: rest) a w:=by
 cases A with
 | some ad =>
   refine wpList_append_own w hgd s x t ho base e i z size bytes ht hi hz hsize hby hzs hsz v n xs hs hown ad m c news hx hl (fun j u hj=>?_) h1 h63 hbytes hbase (fun v' w' h2 h3 _=>h v' w' h2 h3)
   obtain ⟨b,o,e,hc⟩:=hnews j u hj
   rw [Option.some.inj e,add_at]
   exact hc
 | none =>
   have hn:news=[]:=by
    cases news with
    | nil=>rfl
    | cons u us =>
      obtain ⟨_,_,e,_⟩:=hnews 0 u rfl
      cases e
   subst hn
   have hm:m=0:=by
    have:m*size=0:=by simpa using hl.symm
    rcases Nat.mul_eq_zero.1 this with h|h
    · exact h
    · omega
   subst hm
   refine wpList_append_nil hgd s x t ho base e i size ht hi v n c xs hs hown hx (h v w ?_ ⟨rfl,rfl,rfl,Nat.le_refl _,fun _ _ _=>rfl⟩)
   rw [List.append_nil,Nat.add_zero]
   exact hown
theorem tlv_cut {α:Type} {f:α→TrS} {w:World} {P:Nat→Prop} : ∀ {l m:List α} {zs:List Value},TLV w P (rowOf f (l++m)) zs→∃ xs ys,zs=xs++ys∧TLV w P (rowOf f l) xs∧TLV w P (rowOf f m) ys
 | [],m,zs,h=>⟨[],zs,rfl,rfl,h⟩
 | a :: t,m,zs,h=>by
   obtain ⟨cs,ys,rfl,h1,h2⟩:=h
   obtain ⟨xs',ys',rfl,h3,h4⟩:=tlv_cut h2
   exact ⟨cs++xs',ys',by rw [List.append_assoc],⟨cs,xs',rfl,h1,h3⟩,h4⟩
def DefsO (B base:Nat) (w:World) (V:Value) (ds:List DefnT):Prop:=∃ xs,w.ownsRow base 37 6 V ds.length xs∧TLV w (fun b=>b < B) (rowOf encDefn ds) xs
theorem DefsO.next {B base:Nat} {w w':World} {V:Value} {ds:List DefnT} (hB:B≤w.heap.size) (h:DefsO B base w V ds) (hb:Below w.heap.size w w'):DefsO B base w' V ds:=by
 obtain ⟨xs,h1,h2⟩:=h
 exact ⟨xs,own_low h1 hb,TLV.keep (fun b hx=>⟨hx,hb.block b (Nat.lt_of_lt_of_le hx hB)⟩) h2⟩
theorem DefsO.row {B base:Nat} {w:World} {V:Value} {ds:List DefnT} (h:DefsO B base w V ds) (hB:B≤w.heap.size):∃ A c,V=.slice A ds.length c∧RowT w (fun b=>b < w.heap.size) (rowOf encDefn ds) A:=by
 obtain ⟨xs,h1,h2⟩:=h
 obtain ⟨A,c,rfl⟩:=shape_own h1
 refine ⟨A,c,rfl,?_⟩
 cases ds with
 | nil=>exact nil_row
 | cons p t =>
   obtain ⟨g,c',e⟩:=ownsRow_succ (k:=t.length) h1
   injection e with e1 e2 e3
   subst e1
   have hc:=h1.cells (g:=g) rfl
   have hg:g < w.heap.size:=(h1.lt g rfl).2
   refine row_build (k:=6) (P:=fun b=>b < w.heap.size) hg len_dfn fun q x hx=>?_
   obtain ⟨cs,t1,t2⟩:=tlv_at len_dfn h2 hx
   refine ⟨cs,TS.keep (fun b hb=>⟨Nat.lt_of_lt_of_le hb hB,rfl⟩) _ _ t1,fun j u hj=>?_⟩
   have:=hc _ u (t2 j u hj)
   rwa [add_at] at this
theorem DefsO.rowX {B base x:Nat} {w:World} {V:Value} {ds:List DefnT} (h:DefsO B base w V ds) (hB:B≤x) (hx:x < base):∃ A c,V=.slice A ds.length c∧RowT w (fun b=>b < w.heap.size∧b ≠ x) (rowOf encDefn ds) A:=by
 obtain ⟨xs,h1,h2⟩:=h
 obtain ⟨A,c,rfl⟩:=shape_own h1
 refine ⟨A,c,rfl,?_⟩
 cases ds with
 | nil=>exact nil_row
 | cons p t =>
   obtain ⟨g,c',e⟩:=ownsRow_succ (k:=t.length) h1
   injection e with e1 e2 e3
   subst e1
   have hc:=h1.cells (g:=g) rfl
   have hg:=h1.lt g rfl
   refine row_build (k:=6) (P:=fun b=>b < w.heap.size∧b ≠ x) ⟨hg.2,by omega⟩ len_dfn fun q y hy=>?_
   obtain ⟨cs,t1,t2⟩:=tlv_at len_dfn h2 hy
   refine ⟨cs,TS.keep (fun b hb=>⟨⟨by omega,by omega⟩,rfl⟩) _ _ t1,fun j u hj=>?_⟩
   have:=hc _ u (t2 j u hj)
   rwa [add_at] at this
theorem KSB.set {w W:World} {c0 c1 c2:Value} (h:KSB w #[c0,c1,c2] W) (v:Value):KSB w #[v,c1,c2] (W.setCell ⟨w.heap.size,0,none⟩ v):=
 ⟨h.low.setCell (p:=⟨w.heap.size,0,none⟩) (Nat.le_refl _) v,by simp [World.setCell,Array.getElem?_modify,h.box]⟩
theorem row_set {w W:World} {v:Value} {l:TrL} {A:Option Addr} (h:RowT W (fun b=>b < W.heap.size∧b ≠ w.heap.size) l A):RowT (W.setCell ⟨w.heap.size,0,none⟩ v) (fun b=>b < (W.setCell ⟨w.heap.size,0,none⟩ v).heap.size) l A:=
 RowT.keep (P':=fun b=>b < (W.setCell ⟨w.heap.size,0,none⟩ v).heap.size) (fun b hb=>⟨by simp [World.setCell];exact hb.1,Below.heap_setCell _ _ _ _ (fun e=>hb.2 e)⟩) _ _ h
theorem wp_app_row {P:Program} {w:World} {o:Oper} {a:Act} {K:Act→World→Prop} {Q:Exit→Act→World→Prop} (s x:Operand) (t:TypeId)
  (ho:o.op=.call { callee:=.builtin .append,args:=#[s,x],argTypes:=#[t,t] })
  (base:Nat) (e:TypeId) (i:TypeInfo) (z:Value) (size bytes:Nat) (ht:P.underlying t=some (.slice e)) (hi:P.info? e=some i) (hz:i.zero=some z)
  (hsize:i.size=size) (hby:i.bytes=bytes) (hzs:z.cells.size=size) (hsz:0 < size)
  (v:Value) (n:Nat) (xs:List Value) (hs:a.eval s=v) (hown:w.ownsRow base e size v n xs)
  (ad:Addr) (m c:Nat) (news:List Value) (hx:a.eval x=.slice (some ad) m c) (hl:news.length=m*size) (hnews:∀ j u,news[j]? = some u→w.cell? (ad.add j)=some u) (h1:∀ u ∈ news,u.oneCell'=true)
  (h63:n+m≤maxLen) (hbytes:(n+m)*bytes≤140737488355328) (hbase:base≤w.heap.size)
  (h:∀ v' w',w'.ownsRow base e size v' (n+m) (xs++news)→w.grownBy w' v.ownBlock→K (a.put o.dst v') w'):o.wp P a w K Q:=by
 obtain ⟨v',w',hr,h2,h3,_,_⟩:=run_append_own_at (P:=P) w base t o.type e i z size bytes ht hi hz hsize hby hzs hsz v n xs hown ad m c news hl hnews h1 h63 hbytes hbase
 unfold Oper.wp execOp
 simp only [ho,resolve,invoke,builtin,Sem.run_bind,Sem.run_pure,Result.andThen_ok,List.map_toArray,List.map_cons,List.map_nil,hs,hx,hr]
 exact h v' w' h2 h3
theorem step_app_row {P:Program} {w:World} {ops:Array Oper} {o:Oper} {a:Act} {K:Act→World→Prop} {Q:Exit→Act→World→Prop} {E:Prop} (hgd:o.guard=none) (s x:Operand) (t:TypeId)
  (ho:o.op=.call { callee:=.builtin .append,args:=#[s,x],argTypes:=#[t,t] })
  (base:Nat) (e:TypeId) (i:TypeInfo) (z:Value) (size bytes:Nat) (ht:P.underlying t=some (.slice e)) (hi:P.info? e=some i) (hz:i.zero=some z)
  (hsize:i.size=size) (hby:i.bytes=bytes) (hzs:z.cells.size=size) (hsz:0 < size)
  (v:Value) (n:Nat) (xs:List Value) (hs:a.eval s=v) (hown:w.ownsRow base e size v n xs)
  (ad:Addr) (m c:Nat) (news:List Value) (hx:a.eval x=.slice (some ad) m c) (hl:news.length=m*size) (hnews:∀ j u,news[j]? = some u→w.cell? (ad.add j)=some u) (h1:∀ u ∈ news,u.oneCell'=true)
  (h63:n+m≤maxLen) (hbytes:(n+m)*bytes≤140737488355328) (hbase:base≤w.heap.size)
  (h:∀ v' w',w'.ownsRow base e size v' (n+m) (xs++news)→w.grownBy w' v.ownBlock→K (a.put o.dst v') w'):if Region.wanted o (yielded ops a.tmps)=true then Oper.wp P o a w K Q else E:=by
 have hw:Region.wanted o (yielded ops a.tmps)=true:=by simp [Region.wanted,hgd]
 rw [if_pos hw]
 exact wp_app_row s x t ho base e i z size bytes ht hi hz hsize hby hzs hsz v n xs hs hown ad m c news hx hl hnews h1 h63 hbytes hbase h
theorem defs_ts {w:World} {ds:List DefnT} {A:Option Addr} {c:Nat} {q m:ByteArray} (hq:q.size≤9223372036854775807) (hm:m.size≤9223372036854775807) (hl:ds.length≤9223372036854775807) (h:RowT w (fun b=>b < w.heap.size) (rowOf encDefn ds) A) :
  TS w (fun b=>b < w.heap.size) (encSch ⟨ds,q,m⟩) [.slice A ds.length c,.string q,.string m]:=by
 unfold encSch
 simp only [TS,TP]
 exact ⟨_,_,rfl,⟨A,c,by rw [rowOf_len],by rw [rowOf_len];exact hl,h⟩,_,_,rfl,⟨rfl,hq⟩,_,_,rfl,⟨rfl,hm⟩,rfl⟩
theorem turn_place (by_:Int) (n:Nat) (hn:0 < n) (h:n≤9223372036854775807):∃ kk:Nat,kk < n∧wrap64 ((IntKind.u64.wrap by_).tmod (n:Int))=(kk:Int):=by
 have e:IntKind.u64.wrap by_=by_ % 18446744073709551616:=by simp [IntKind.wrap,IntKind.bits,IntKind.signed]
 have h0:0≤by_ % 18446744073709551616:=Int.emod_nonneg _ (by decide)
 rw [e,Int.tmod_eq_emod_of_nonneg h0]
 generalize by_ % 18446744073709551616=x at h0
 have h1:=Int.emod_nonneg x (b:=(n:Int)) (by omega)
 have h2:=Int.emod_lt_of_pos x (by omega:(0:Int) < (n:Int))
 generalize x % (n:Int)=y at h1 h2
 refine ⟨y.toNat,by omega,?_⟩
 unfold wrap64
 omega
def turnS (S:SchT) (k:Nat):SchT:=⟨S.defs.drop k++S.defs.take k,S.query,S.mutation⟩
theorem turn_perm (S:SchT) (k:Nat):S.defs.Perm (turnS S k).defs:=by
 have:=List.perm_append_comm (l₁:=S.defs.take k) (l₂:=S.defs.drop k)
 rwa [List.take_append_drop] at this
theorem turn_check {S:SchT} (k:Nat) (h:checkS S=0):checkS (turnS S k)=0:=check_perm (S:=S) (S':=turnS S k) rfl rfl (turn_perm S k) h
theorem turn_len (S:SchT) (k:Nat):(turnS S k).defs.length=S.defs.length:=(turn_perm S k).length_eq.symm
theorem turn_slim {S:SchT} (k:Nat) (h:SlimS S):SlimS (turnS S k):=
 ⟨by rw [turn_len];exact h.1,fun d hd=>h.2 d ((turn_perm S k).mem_iff.2 hd)⟩
theorem turn_lig (S:SchT) (k:Nat):ligN (turnS S k)=ligN S:=by
 have e:ligN (turnS S k)=((S.defs.drop k++S.defs.take k).map defN).sum:=rfl
 have e2:ligN S=((S.defs.take k++S.defs.drop k).map defN).sum:=by rw [List.take_append_drop];rfl
 rw [e,e2,List.map_append,List.map_append,List.sum_append,List.sum_append,Nat.add_comm]
theorem turn_ok {S:SchT} (k:Nat) (h:ligN S≤4000) (hs:SlimS S):OkS (turnS S k):=okS_of (by rw [turn_lig];exact h) (turn_slim k hs)
theorem grow_len (S:SchT) (n:ByteArray) (l:List ByteArray):(growS S n l).defs.length=S.defs.length+1:=by show (S.defs++[enumD n l]).length=_;rw [List.length_append];rfl
theorem grow_ok {S:SchT} {n:ByteArray} {l:List ByteArray} (h:ligN S≤4000) (hs:SlimS S) (hn:n.size≤200) (hl:l.length≤20) (hp:∀ s,s ∈ l→s.size≤200):OkS (growS S n l):=by
 have o:=okS_of h hs
 have hlen:=defs_len S.defs
 have hz':(S.defs.map defN).sum≤4000:=h
 have key:∀ {p:DefnT→Prop},(∀ d,d ∈ S.defs→p d)→p (enumD n l)→∀ d,d ∈ (growS S n l).defs→p d:=fun h1 h2 d hd=>by
  rcases List.mem_append.1 hd with hd|hd
  · exact h1 d hd
  · rw [List.mem_singleton.1 hd]
    exact h2
 have hgl:(growS S n l).defs.length=S.defs.length+1:=by show (S.defs++[enumD n l]).length=_;rw [List.length_append];rfl
 have hdp:allDP (growS S n l).defs=allDP S.defs:=by
  show (S.defs++[enumD n l]).flatMap _=_
  rw [List.flatMap_append]
  show _++([]++[])=_
  rw [List.append_nil,List.append_nil]
  rfl
 refine ⟨key o.mod ⟨fun y hy=>(by cases hy),fun f hf=>(by cases hf)⟩,key o.part fun s hs=>(by have:=hp s hs;omega),⟨by rw [hgl];omega,key o.slim.2 ⟨by show 0*16≤_;omega,by show 0*96≤_;omega,by show l.length*16≤_;omega,by show 0*136≤_;omega,fun f hf=>(by cases hf)⟩⟩,by rw [hgl];unfold maxLen;omega,key o.names (by show n.size≤_;unfold maxLen;omega),key o.faces (by show 0 < _;unfold maxLen;omega),by rw [hgl,hdp];omega⟩
end Go.Proofs.YtaekdfcpbepepaaGreatDoor
