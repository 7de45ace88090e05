/- What the places' iterator holds while it goes on. -/
import Derived.Test.YtaekdfcpbepepaaGreatDoorQb9
import Derived.Test.YtaekdfcpbepepaaGreatDoorProg
import Derived.RangeFuncNested
import Derived.RangeFuncBound
import Derived.RangeFuncCalls
import Derived.RangeFuncLeaves
import Derived.OwnWalkIn
import Derived.TacticsInMore
import Derived.LoopNIn
import Derived.LoopIn
namespace Go.Proofs.YtaekdfcpbepepaaGreatDoor
open Go.RowKit
structure MOU (D:List DefnT) (U:Nat→Prop) (KS:List ByteArray) (M:Nat) (W:World):Prop where
 ok:MOK D (fun b=>¬ U b) KS M W
 lt:∀ b,U b→b < W.heap.size
 no : ¬ U M
theorem MOK.turn {D:List DefnT} {X X':Nat→Prop} {KS:List ByteArray} {M:Nat} {W:World} (h:MOK D X KS M W) (hX:∀ b,b < W.heap.size→X' b→X b):MOK D X' KS M W:=by
 obtain ⟨ents,m,h1,h2,h3,h4,h5⟩:=h
 refine ⟨ents,m,h1,h2,h3,h4,fun s=>(h5 s).imp_right ?_⟩
 rintro ⟨e1,c0,c1,c2,c3,c4,c5,e2,e3⟩
 exact ⟨e1,c0,c1,c2,c3,c4,c5,e2,TS.keep (fun b hx=>⟨⟨hx.1,fun h=>hx.2 (hX b hx.1 h)⟩,rfl⟩) _ _ e3⟩
def XU (U:Nat→Prop) (W:World):Nat→Prop:=fun b=>b < W.heap.size∧¬ U b
theorem MOU.xu {D:List DefnT} {U:Nat→Prop} {KS:List ByteArray} {M:Nat} {W:World} (h:MOU D U KS M W):MOK D (XU U W) KS M W:=h.ok.turn (fun _ _ hx=>hx.2)
def U3 (U:Nat→Prop) (W:World) (K:Nat):Nat→Prop:=fun b=>b < K∧(U b∨W.heap.size≤b)
theorem MOU.of_xu {D:List DefnT} {U:Nat→Prop} {KS:List ByteArray} {M K:Nat} {W W':World} (h:MOU D U KS M W) (hk:MOK D (fun b=>XU U W b∨K≤b) KS M W') (hK:K≤W'.heap.size):MOU D (U3 U W K) KS M W':=by
 refine ⟨hk.turn (fun b hb hn=>?_),fun b hb=>Nat.lt_of_lt_of_le hb.1 hK,fun hb=>?_⟩
 · rcases Nat.lt_or_ge b K with hl|hl
   · rcases Nat.lt_or_ge b W.heap.size with h2|h2
     · exact .inl ⟨h2,fun hu=>hn ⟨hl,.inl hu⟩⟩
     · exact absurd ⟨hl,.inr h2⟩ hn
   · exact .inr hl
 · rcases hb.2 with hu|hu
   · exact h.no hu
   · have:=h.ok.lt
     omega
theorem MOU.keep {D:List DefnT} {U:Nat→Prop} {KS:List ByteArray} {M:Nat} {W W':World} (h:MOU D U KS M W) (hs:W.heap.size≤W'.heap.size) (hM:W'.heap[M]? = W.heap[M]?) (hb:∀ b,U b→W'.heap[b]? = W.heap[b]?):MOU D U KS M W':=
 ⟨h.ok.keep hs hM (fun b _ hn=>hb b (Classical.byContradiction hn)),fun b hu=>Nat.lt_of_lt_of_le (h.lt b hu) hs,h.no⟩
structure MoZ (X:Nat→Prop) (w w':World):Prop where
 os:w'.os=w.os
 tape:w'.tape=w.tape
 output:w'.output=w.output
 size:w.heap.size≤w'.heap.size
 block:∀ b,b < w.heap.size→¬ X b→w'.heap[b]? = w.heap[b]?
theorem MoZ.trans {X:Nat→Prop} {a b c:World} (h:MoZ X a b) (k:MoZ X b c):MoZ X a c:=
 ⟨k.os.trans h.os,k.tape.trans h.tape,k.output.trans h.output,Nat.le_trans h.size k.size,fun i h1 h2=>(k.block i (Nat.lt_of_lt_of_le h1 h.size) h2).trans (h.block i h1 h2)⟩
abbrev Gh:=(Nat→Prop) × (Nat→Prop)
structure TZ (D:List DefnT) (KS:List ByteArray) (M base:Nat) (G G':Gh) (A B:World):Prop where
 z:G'.1=G.1
 mo:MoZ (fun b=>b=M∨(base≤b∧¬ G.1 b)) A B
 ok:MOU D G.2 KS M A→MOU D G'.2 KS M B
 u:∀ b,G'.2 b→G.2 b∨A.heap.size≤b
 um:∀ b,G.2 b→G'.2 b
structure RZ (D:List DefnT) (KS:List ByteArray) (M:Nat) (G G':Gh) (A B:World):Prop where
 mo:MoZ (fun b=>b=M∨G.1 b) A B
 ok:MOU D G.2 KS M A→MOU D G'.2 KS M B
 u:∀ b,G'.2 b→G.2 b∨A.heap.size≤b
 um:∀ b,G.2 b→G'.2 b
 old:∀ b,b < A.heap.size→G'.1 b→G.1 b
 lt:∀ b,G'.1 b→b < B.heap.size
 zu:∀ b,G'.1 b→¬ G'.2 b
structure IE (S:SchT) (KS:List ByteArray) (M B pb sb base:Nat) (c0 c1 c2:Value) (pcs:Array Value) (G:Gh) (W:World):Prop where
 zlt:∀ b,G.1 b→b < W.heap.size
 zB:∀ b,b < B→¬ G.1 b
 zu:∀ b,G.1 b→¬ G.2 b
 uB:∀ b,b < B→G.2 b
 zp : ¬ G.1 pb∧pb ≠ M∧pb < base
 zs : ¬ G.1 sb∧sb ≠ M∧sb < base
 hB:B≤M
 hMb:M < base
 hbase:base≤W.heap.size
 ok:MOU S.defs G.2 KS M W
 pbox:W.heap[pb]? = some (.cells pcs 163 (0,0))
 sbox:W.heap[sb]? = some (.cells #[c0,c1,c2,.map (some M)] 157 (0,0))
 sch:TS W (fun b=>b < B) (encSch S) [c0,c1,c2]
section
variable {S:SchT} {KS:List ByteArray} {M B pb sb base:Nat} {c0 c1 c2:Value} {pcs:Array Value} {G G':Gh} {W W':World}
theorem IE.t (h:IE S KS M B pb sb base c0 c1 c2 pcs G W) (ht:TZ S.defs KS M base G G' W W'):IE S KS M B pb sb base c0 c1 c2 pcs G' W':=by
 have hs:=ht.mo.size
 have hM:=h.hMb
 have hb:=h.hbase
 have hBM:=h.hB
 have hp:=h.zp.2
 have hq:=h.zs.2
 have e:=ht.z
 refine ⟨fun b hz=>?_,fun b hb=>?_,fun b hz hu=>?_,fun b hb=>ht.um b (h.uB b hb),⟨?_,h.zp.2⟩,⟨?_,h.zs.2⟩,h.hB,h.hMb,Nat.le_trans h.hbase hs,ht.ok h.ok,(ht.mo.block _ (by omega) (fun e=>?_)).trans h.pbox,(ht.mo.block _ (by omega) (fun e=>?_)).trans h.sbox,TS.keep (fun b hlt=>⟨hlt,ht.mo.block b (by omega) (fun e=>by omega)⟩) _ _ h.sch⟩
 · rw [e] at hz;exact Nat.lt_of_lt_of_le (h.zlt b hz) hs
 · rw [e];exact h.zB b hb
 · rw [e] at hz
   rcases ht.u b hu with h1|h1
   · exact h.zu b hz h1
   · have:=h.zlt b hz;omega
 · rw [e];exact h.zp.1
 · rw [e];exact h.zs.1
 · omega
 · omega
theorem IE.r (h:IE S KS M B pb sb base c0 c1 c2 pcs G W) (hr:RZ S.defs KS M G G' W W'):IE S KS M B pb sb base c0 c1 c2 pcs G' W':=by
 have hs:=hr.mo.size
 have hM:=h.hMb
 have hb:=h.hbase
 have hBM:=h.hB
 have hp:=h.zp.2
 have hq:=h.zs.2
 exact ⟨hr.lt,fun b hb' hz=>h.zB b hb' (hr.old b (by omega) hz),hr.zu,fun b hb=>hr.um b (h.uB b hb),⟨fun hz=>h.zp.1 (hr.old _ (by omega) hz),h.zp.2⟩,⟨fun hz=>h.zs.1 (hr.old _ (by omega) hz),h.zs.2⟩,h.hB,h.hMb,Nat.le_trans h.hbase hs,hr.ok h.ok,
  (hr.mo.block _ (by omega) (fun e=>e.elim h.zp.2.1 h.zp.1)).trans h.pbox,(hr.mo.block _ (by omega) (fun e=>e.elim h.zs.2.1 h.zs.1)).trans h.sbox,
  TS.keep (fun b hlt=>⟨hlt,hr.mo.block b (by omega) (fun e=>e.elim (by omega) (h.zB b hlt))⟩) _ _ h.sch⟩
theorem TZ.of_below (hl:∀ b,G.2 b→b < W.heap.size) (hM:M < W.heap.size) (h:Below W.heap.size W W'):TZ S.defs KS M base G G W W':=
 ⟨rfl,⟨h.os,h.tape,h.output,h.size,fun b hb _=>h.block b hb⟩,fun k=>k.keep h.size (h.block M hM) (fun b hu=>h.block b (hl b hu)),fun _ h=>.inl h,fun _ h=>h⟩
theorem TZ.of_mo {K:Nat} (h:MoX M W W') (ho:MOU S.defs G.2 KS M W) (hk:MOK S.defs (fun b=>XU G.2 W b∨K≤b) KS M W') (hK1:W.heap.size≤K) (hK2:K≤W'.heap.size):TZ S.defs KS M base G (G.1,U3 G.2 W K) W W':=
 ⟨rfl,⟨h.os,h.tape,h.output,h.size,fun b hb hn=>h.block b hb (fun e=>hn (.inl e))⟩,fun _=>ho.of_xu hk hK2,fun _ h=>h.2,fun b hu=>⟨Nat.lt_of_lt_of_le (ho.lt b hu) hK1,.inl hu⟩⟩
def PlsZ (G:Gh) (W:World) (B base:Nat) (own:Option Nat) (l:List PlT) (A:Option Addr):Prop:=PlsAt W B base l A∧(l ≠ []→∀ g o,A=some ⟨g,o,none⟩→¬ G.1 g∧¬ G.2 g∧own ≠ some g)
theorem PlsZ.at {own:Option Nat} {l:List PlT} {A:Option Addr} (h:PlsZ G W B base own l A) {j:Nat} {x:PlT} (hx:l[j]? = some x):∃ g o cs,A=some ⟨g,o,none⟩∧(base≤g∧g < W.heap.size∧¬ G.1 g∧¬ G.2 g∧own ≠ some g)∧TS W (fun b=>b < B) (encPl x) cs∧∀ (i:Nat) u,cs[i]? = some u→W.cell? ⟨g,o+j*9+i,none⟩=some u:=by
 obtain ⟨g,o,cs,h1,h2,h3,h4,h5⟩:=h.1 j x hx
 have h6:=h.2 (fun e=>by rw [e] at hx;simp at hx) g o h1
 exact ⟨g,o,cs,h1,⟨h2,h3,h6⟩,h4,h5⟩
theorem PlsZ.blk {own own':Option Nat} {l:List PlT} {A:Option Addr} (h:PlsZ G W B base own l A) (hs:W.heap.size≤W'.heap.size) (hB:∀ b,b < B→W'.heap[b]? = W.heap[b]?) (hb:∀ b,base≤b→b < W.heap.size→¬ G.1 b→¬ G.2 b→own ≠ some b→W'.heap[b]? = W.heap[b]?) (hz:∀ b,b < W.heap.size→¬ G.1 b→¬ G.2 b→own ≠ some b→¬ G'.1 b∧¬ G'.2 b∧own' ≠ some b):PlsZ G' W' B base own' l A:=by
 refine ⟨fun j x hx=>?_,fun hl g o e=>?_⟩
 · obtain ⟨g,o,cs,h1,⟨h2,h3,h6,h7,h8⟩,h4,h5⟩:=h.at hx
   exact ⟨g,o,cs,h1,h2,Nat.lt_of_lt_of_le h3 hs,TS.keep (fun b hlt=>⟨hlt,hB b hlt⟩) _ _ h4,fun i u hu=>(World.cell?_of_block (a:=⟨g,_,none⟩) (hb g h2 h3 h6 h7 h8)).trans (h5 i u hu)⟩
 · obtain ⟨x,hx⟩:=List.exists_mem_of_ne_nil l hl
   obtain ⟨j,hj⟩:=List.mem_iff_getElem?.1 hx
   obtain ⟨g',o',cs,h1,⟨h2,h3,h6,h7,h8⟩,_⟩:=h.at hj
   rw [h1] at e
   have e:=Option.some.inj e
   injection e with e1 e2 _
   subst e1
   exact hz _ h3 h6 h7 h8
def STK (G:Gh) (W:World) (B base:Nat) (V:Value) (stk:List (List PlT)):Prop:=
 ∃ vs:List Value,W.ownsRow base 172 1 V stk.length vs∧(∀ (j:Nat) l,stk[j]? = some l→∃ A c,vs[j]? = some (.slice A l.length c)∧l.length≤c∧PlsZ G W B base V.ownBlock l A)∧∀ k,V.ownBlock=some k→¬ G.1 k∧¬ G.2 k
theorem own_one {base:Nat} {w w':World} {e:TypeId} {k m:Nat} {v:Value} {xs:List Value} (h:w.ownsRow base e k v m xs) (hb:∀ b,v.ownBlock=some b→w'.heap[b]? = w.heap[b]?):w'.ownsRow base e k v m xs:=by
 obtain ⟨h1,h2⟩:=h
 refine ⟨h1,h2.imp_right ?_⟩
 rintro ⟨g,cap,cur,h3,h4,h5,h6⟩
 exact ⟨g,cap,cur,h3,h4,(hb g (by rw [h3];rfl)).trans h5,h6⟩
theorem STK.blk {V:Value} {stk:List (List PlT)} (h:STK G W B base V stk) (hs:W.heap.size≤W'.heap.size) (hB:∀ b,b < B→W'.heap[b]? = W.heap[b]?) (hb:∀ b,base≤b→b < W.heap.size→¬ G.1 b→¬ G.2 b→W'.heap[b]? = W.heap[b]?) (hz:∀ b,b < W.heap.size→¬ G.1 b→¬ G.2 b→¬ G'.1 b∧¬ G'.2 b):STK G' W' B base V stk:=by
 obtain ⟨vs,h1,h2,h3⟩:=h
 refine ⟨vs,own_one h1 (fun b e=>hb b (h1.lt b e).1 (h1.lt b e).2 (h3 b e).1 (h3 b e).2),fun j l hj=>?_,fun k e=>hz k (h1.lt k e).2 (h3 k e).1 (h3 k e).2⟩
 obtain ⟨A,c,g1,g2,g3⟩:=h2 j l hj
 exact ⟨A,c,g1,g2,g3.blk hs hB (fun b p1 p2 p3 p4 _=>hb b p1 p2 p3 p4) (fun b p1 p2 p3 p4=>⟨(hz b p1 p2 p3).1,(hz b p1 p2 p3).2,p4⟩)⟩
theorem STK.below {V:Value} {stk:List (List PlT)} (h:STK G W B base V stk) (hBW:B≤W.heap.size) (hb:Below W.heap.size W W'):STK G W' B base V stk:=
 h.blk hb.size (fun b h1=>hb.block b (by omega)) (fun b _ h2 _ _=>hb.block b h2) (fun _ _ h1 h2=>⟨h1,h2⟩)
theorem STK.mo {V:Value} {stk:List (List PlT)} (h:STK G W B base V stk) (ie:IE S KS M B pb sb base c0 c1 c2 pcs G W) (hm:MoX M W W') (K:Nat):STK (G.1,U3 G.2 W K) W' B base V stk:=by
 have hM:=ie.hMb
 have hBM:=ie.hB
 have hb:=ie.hbase
 exact h.blk hm.size (fun b h1=>hm.block b (by omega) (by omega)) (fun b h1 h2 _ _=>hm.block b h2 (by omega)) (fun b h0 h1 h2=>⟨h1,fun hu=>hu.2.elim h2 (by omega)⟩)
theorem STK.r {V:Value} {stk:List (List PlT)} (h:STK G W B base V stk) (ie:IE S KS M B pb sb base c0 c1 c2 pcs G W) (hr:RZ S.defs KS M G G' W W'):STK G' W' B base V stk:=by
 have hM:=ie.hMb
 have hBM:=ie.hB
 have hb:=ie.hbase
 refine h.blk hr.mo.size (fun b h1=>hr.mo.block b (by omega) (fun e=>?_)) (fun b h1 h2 h3 _=>hr.mo.block b h2 (fun e=>?_)) (fun b h0 h1 h2=>⟨fun hz=>h1 (hr.old b h0 hz),fun hu=>(hr.u b hu).elim h2 (by omega)⟩)
 · rcases e with e|e
   · omega
   · exact ie.zB b h1 e
 · rcases e with e|e
   · omega
   · exact h3 e
end
def postZ (l d:Nat) (W2:World) (I:World→Prop) (Ix:Code→World→Prop):Exit→Act→World→Prop
 | .normal,_,W'=>(W'.heap[l]? = W2.heap[l]?∧W'.heap[d]? = W2.heap[d]?)∧I W'
 | .ret,_,W'=>(W'.heap[l]? = W2.heap[l]?∧W'.heap[d]? = W2.heap[d]?)∧Ix .ret W'
 | .exit id,_,W'=>(W'.heap[l]? = W2.heap[l]?∧W'.heap[d]? = W2.heap[d]?)∧Ix (.exit id) W'
 | .goto t,_,W'=>(W'.heap[l]? = W2.heap[l]?∧W'.heap[d]? = W2.heap[d]?)∧Ix (.goto t) W'
 | .panic _,_,_=>False
 | .outgrown,_,_=>False
theorem wpIn_rangeFunc_z {F:Fence} {n:Nat} {P:Program} {α γ:Type} {g:Operand} {ps:Array Tmp} {assign body:Code} {Q:Exit→Act→World→Prop} {a:Act} {w:World}
   (hro:F.round=none) (h1:1≤n) {gf:Nat} {lb:Array Value} (hg:a.eval g=.func (.func gf) #[] lb) (hFg:F.fn gf) (eg:∀ args w,(callFunc gf args).run P w=.ok (.enter gf args) w)
   (N:Nat) (encs:α→Array Value) (Lies:Nat→α→World→Prop) (T TA R:γ→γ→World→World→Prop) (hps:∀ x,(encs x).size=ps.size) (Z0:γ)
   (I:Nat→γ→World→Prop) (Ix:Code→Nat→World→Prop)
   (hTl:∀ Z Z' A B,T Z Z' A B→∀ b o,(b=w.heap.size∨b=w.heap.size+1)→A.heap[b]? = some o→B.heap[b]? = some o)
   (hIT:∀ i Z Z' A B,I i Z A→T Z Z' A B→I i Z' B)
   (hIr:∀ i Z W o',I i Z W→w.heap.size+1 < W.heap.size→I i Z (W.putObj (w.heap.size+1) o'))
   (hIxr:∀ c i W o',Ix c i W→w.heap.size+1 < W.heap.size→Ix c i (W.putObj (w.heap.size+1) o'))
   (hRc:∀ i Z Z1 Z' W W1 W3 o o',I i Z W→TA Z Z1 W W1→w.heap.size+1 < W1.heap.size→R Z1 Z' (W1.putObj (w.heap.size+1) o) W3→R Z Z' W (W3.putObj (w.heap.size+1) o'))
   (h0:∀ W1,Below w.heap.size w W1→W1.heap.size=w.heap.size+2→I 0 Z0 W1)
   (hseq:∀ (W1:World) (J:Nat→γ→World→Prop) (Jx:Nat→World→Prop),Below w.heap.size w W1→W1.heap.size=w.heap.size+2→(∀ i Z Z' A B,J i Z A→T Z Z' A B→J i Z' B) →
     (∀ i x Z W,i < N→J i Z W→Lies i x W→YieldAt F (n - 1 - 1) P (w.heap.size+1) (encs x) W fun e W' =>
       (e=.returned (.bool true)∧∃ Z',J (i+1) Z' W'∧R Z Z' W W')∨(e=.returned (.bool false)∧Jx i W')) →
     J 0 Z0 W1→CallsIn F (n - 1) P gf (#[.func (.yield (w.heap.size+1)) #[] #[]]++lb) W1 fun e W'=>(∃ v,e=.returned v)∧((∃ Z,J N Z W')∨∃ i,i < N∧Jx i W'))
   (hround:∀ i x Z W,i < N→I i Z W→Lies i x W→w.heap.size+1 < W.heap.size →
     assign.wpIn (F.inRound (w.heap.size+1)) (n - 1 - 1) P (Exit.then (fun a₁ W₁=>∃ Z₁,T Z Z₁ W W₁∧TA Z Z₁ W W₁∧I i Z₁ W₁∧∀ o,body.wpIn (F.inRound (w.heap.size+1)) (n - 1 - 1) P (postZ (w.heap.size+1) w.heap.size (W₁.putObj (w.heap.size+1) o) (fun W'=>∃ Z',I (i+1) Z' W'∧R Z₁ Z' (W₁.putObj (w.heap.size+1) o) W') (fun c W'=>Ix c i W')) a₁ (W₁.putObj (w.heap.size+1) o)) (fun _ _ _=>False)) { tmps:=(ps.zip (encs x)).foldl (fun t (p,v)=>t.setIfInBounds p v) a.tmps,defers:=[] } W)
   (hdone:∀ (Z:γ) (W:World),I N Z W→W.heap[w.heap.size]? = some (.deferred (some []))→Q .normal { a with defers:={ target:=.collected w.heap.size,args:=#[] } :: a.defers } W)
   (hstop:∀ (c:Code) (i:Nat) (W:World),i < N→Ix c i W→W.heap[w.heap.size]? = some (.deferred (some []))→c.wpIn F n P Q { a with defers:={ target:=.collected w.heap.size,args:=#[] } :: a.defers } W) :
   (Code.rangeFunc g ps assign body).wpIn F n P Q a w:=by
 refine wpIn_rangeFunc ?_
 intro fn hfn
 rw [hro]
 obtain ⟨rec,hrec⟩:∃ rec:LoopState→Option Code→Loop,rec=fun st pe=>{ state:=st,pending:=pe,fn,tmps:=a.tmps,params:=ps,assign,body,defers:=w.heap.size }:=⟨_,rfl⟩
 obtain ⟨W1,hW1⟩:∃ W1,(w.alloc (.deferred (some []))).alloc (.loop (rec .ready none))=W1:=⟨_,rfl⟩
 have hL1:W1.heap[w.heap.size+1]? = some (.loop (rec .ready none)):=by
   rw [← hW1];have:=World.alloc_heap_new (w.alloc (.deferred (some []))) (.loop (rec .ready none));rwa [World.size_alloc] at this
 have hK1:W1.heap[w.heap.size]? = some (.deferred (some [])):=by
   rw [← hW1];exact (Below.heap_alloc _ _ _ (by simp)).trans (World.alloc_heap_new w _)
 have hb1:Below w.heap.size w W1:=by
   rw [← hW1];exact ((Below.refl _ w).alloc (Nat.le_refl _) _).alloc (by simp) _
 have hs1:W1.heap.size=w.heap.size+2:=by rw [← hW1];simp
 refine ⟨w.heap.size+1,[{ target:=.collected w.heap.size,args:=#[] }],W1,{ target:=.fn (.func gf) lb,args:=#[.func (.yield (w.heap.size+1)) #[] #[]] },W1,gf,
   #[.func (.yield (w.heap.size+1)) #[] #[]]++lb,W1,?_,?_,?_,?_,fun _=>h1,?_⟩
 · rw [← hW1,hrec];exact run_enterLoop_outer _ _ _ _ _
 · simp only [resolve,hg]
   simp [go_sem]
 · intro f' hf';simp [Target.leads] at hf';subst hf';exact hFg
 · simp [invoke,go_sem,eg]
 · refine (hseq W1
     (fun i Z W=>I i Z W∧W.heap[w.heap.size+1]? = some (.loop (rec .ready none))∧W.heap[w.heap.size]? = some (.deferred (some [])))
     (fun i W=>∃ c,Ix c i W∧W.heap[w.heap.size+1]? = some (.loop (rec .done (some c)))∧W.heap[w.heap.size]? = some (.deferred (some [])))
     hb1 hs1 (fun i Z Z' A B h ht=>⟨hIT i Z Z' A B h.1 ht,hTl Z Z' A B ht _ _ (.inr rfl) h.2.1,hTl Z Z' A B ht _ _ (.inl rfl) h.2.2⟩) ?_ ⟨h0 W1 hb1 hs1,hL1,hK1⟩).mono ?_
   · -- one round
     rintro i x Z W hx ⟨hi,hl,hk⟩ hLie
     have hlt:w.heap.size+1 < W.heap.size:=(Array.getElem?_eq_some_iff.1 hl).1
     have hy:=run_yield (P:=P) (args:=encs x) hl (by rw [hrec];exact hps x)
     rw [hrec] at hy
     refine ⟨fn,_,assign,body,hy,roundIn_of_wpIn hfn (wpIn_mono (hround i x Z W hx hi hLie hlt) ?_)⟩
     rintro e a1 V1 hp
     cases e with
     | normal =>
       obtain ⟨Z1,ht,hta,hi1,hbody⟩:=hp
       have hl1:=hTl Z Z1 W V1 ht _ _ (.inr rfl) hl
       have hk1:=hTl Z Z1 W V1 ht _ _ (.inl rfl) hk
       have hlt1:w.heap.size+1 < V1.heap.size:=(Array.getElem?_eq_some_iff.1 hl1).1
       refine ⟨_,run_beginRound hl1 (by rw [hrec]),?_⟩
       have hl2:(V1.putObj (w.heap.size+1) (.loop { rec .ready none with state:=.busy })).heap[w.heap.size+1]? = some (.loop { rec .ready none with state:=.busy }):=World.putObj_heap_same hlt1
       have hk2:(V1.putObj (w.heap.size+1) (.loop { rec .ready none with state:=.busy })).heap[w.heap.size]? = some (.deferred (some [])):=(World.putObj_heap_other (by omega)).trans hk1
       refine wpIn_mono (hbody (.loop { rec .ready none with state:=.busy })) ?_
       have fin:∀ (jump:Option Code) (W3:World),W3.heap[w.heap.size+1]? = (V1.putObj (w.heap.size+1) (.loop { rec .ready none with state:=.busy })).heap[w.heap.size+1]?∧W3.heap[w.heap.size]? = (V1.putObj (w.heap.size+1) (.loop { rec .ready none with state:=.busy })).heap[w.heap.size]? →
          (Instr.endRound (w.heap.size+1) jump).run P W3=.ok (.bool jump.isNone) (W3.putObj (w.heap.size+1) (.loop (rec (if jump.isNone then .ready else .done) jump))) ∧
          w.heap.size+1 < W3.heap.size ∧
          (W3.putObj (w.heap.size+1) (.loop (rec (if jump.isNone then .ready else .done) jump))).heap[w.heap.size+1]? = some (.loop (rec (if jump.isNone then .ready else .done) jump)) ∧
          (W3.putObj (w.heap.size+1) (.loop (rec (if jump.isNone then .ready else .done) jump))).heap[w.heap.size]? = some (.deferred (some [])):=fun jump W3 hk3=>by
         have hl3:=hk3.1.trans hl2
         have:=run_endRound (P:=P) jump hl3
         rw [hrec] at this ⊢
         exact ⟨this,(Array.getElem?_eq_some_iff.1 hl3).1,World.putObj_heap_same (Array.getElem?_eq_some_iff.1 hl3).1,(World.putObj_heap_other (by omega)).trans (hk3.2.trans hk2)⟩
       rintro e a3 W3 hp
       cases e with
       | normal =>
         obtain ⟨hk3,Z',hi3,hr3⟩:=hp
         obtain ⟨hr,hl3,hl4,hk4⟩:=fin none W3 hk3
         exact ⟨_,_,hr,.inl ⟨rfl,Z',⟨hIr _ _ _ _ hi3 hl3,hl4,hk4⟩,hRc i Z Z1 Z' W V1 W3 _ _ hi hta hlt1 hr3⟩⟩
       | ret =>
         obtain ⟨hk3,hi3⟩:=hp
         obtain ⟨hr,hl3,hl4,hk4⟩:=fin (some .ret) W3 hk3
         exact ⟨_,_,hr,.inr ⟨rfl,.ret,hIxr _ _ _ _ hi3 hl3,hl4,hk4⟩⟩
       | exit id =>
         obtain ⟨hk3,hi3⟩:=hp
         obtain ⟨hr,hl3,hl4,hk4⟩:=fin (some (.exit id)) W3 hk3
         exact ⟨_,_,hr,.inr ⟨rfl,.exit id,hIxr _ _ _ _ hi3 hl3,hl4,hk4⟩⟩
       | goto t =>
         obtain ⟨hk3,hi3⟩:=hp
         obtain ⟨hr,hl3,hl4,hk4⟩:=fin (some (.goto t)) W3 hk3
         exact ⟨_,_,hr,.inr ⟨rfl,.goto t,hIxr _ _ _ _ hi3 hl3,hl4,hk4⟩⟩
       | panic ch=>exact hp.elim
       | outgrown=>exact hp.elim
     | ret=>exact hp.elim
     | exit id=>exact hp.elim
     | goto t=>exact hp.elim
     | panic ch=>exact hp.elim
     | outgrown=>exact hp.elim
   · -- the iterator has ended
     rintro e W ⟨⟨v,rfl⟩,h⟩
     rcases h with ⟨Z,hi,hl,hk⟩|⟨i,hlen,c,hc,hl,hk⟩
     · exact ⟨none,_,by have:=run_endLoop (P:=P) hl (by rw [hrec];simp);rw [hrec] at this;exact this,hdone Z _ (hIr _ _ _ _ hi (Array.getElem?_eq_some_iff.1 hl).1) ((World.putObj_heap_other (by omega)).trans hk)⟩
     · exact ⟨some c,_,by have:=run_endLoop (P:=P) hl (by rw [hrec];simp);rw [hrec] at this;exact this,hstop c i _ hlen (hIxr _ _ _ _ hc (Array.getElem?_eq_some_iff.1 hl).1) ((World.putObj_heap_other (by omega)).trans hk)⟩
end Go.Proofs.YtaekdfcpbepepaaGreatDoor
