/- A range over a function whose rounds turn blocks that the iterator does not read, and whose iterator may turn what it has laid itself: a law after LtRange's. -/
import Derived.Test.YtaekdfcpbepepaaGreatDoorQt30
set_option maxRecDepth 100000
set_option maxHeartbeats 8000000
namespace Go.Proofs.YtaekdfcpbepepaaGreatDoor
open Go.RowKit
theorem wpIn_rangeFunc_y {F:Fence} {n:Nat} {P:Program} {α:Type} {g:Operand} {ps:Array Tmp} {assign body:Code} {Q:Exit→Act→World→Prop} {a:Act} {w:World}
   (hro:F.round=none) (h1:1≤n) {gf:Nat} {lb:Array Value} (hg:a.eval g=.func (.func gf) #[] lb) (hFg:F.fn gf) (eg:∀ args w,(callFunc gf args).run P w=.ok (.enter gf args) w)
   (N:Nat) (encs:α→Array Value) (Lies:Nat→α→World→Prop) (T TA R RX:World→World→Prop) (hps:∀ x,(encs x).size=ps.size)
   (I:Nat→World→Prop) (Ix:Code→Nat→World→Prop)
   (hTl:∀ A B,T A B→∀ b o,(b=w.heap.size∨b=w.heap.size+1)→A.heap[b]? = some o→B.heap[b]? = some o)
   (hIT:∀ i A B,I i A→T A B→I i B) (hIxT:∀ c i A B,Ix c i A→T A B→Ix c i B)
   (hIr:∀ i W o',I i W→w.heap.size+1 < W.heap.size→I i (W.putObj (w.heap.size+1) o'))
   (hIxr:∀ c i W o',Ix c i W→w.heap.size+1 < W.heap.size→Ix c i (W.putObj (w.heap.size+1) o'))
   (hRc:∀ i W W1 W3 o o',I i W→TA W W1→w.heap.size+1 < W1.heap.size→R (W1.putObj (w.heap.size+1) o) W3→R W (W3.putObj (w.heap.size+1) o'))
   (hRXc:∀ W W1 W3 o o',TA W W1→w.heap.size+1 < W1.heap.size→RX (W1.putObj (w.heap.size+1) o) W3→RX W (W3.putObj (w.heap.size+1) o'))
   (h0:∀ W1,Below w.heap.size w W1→W1.heap.size=w.heap.size+2→I 0 W1)
   (hseq:∀ (W1:World) (J:Nat→World→Prop) (Jx:Nat→World→Prop),Below w.heap.size w W1→W1.heap.size=w.heap.size+2→(∀ i A B,J i A→T A B→J i B)→(∀ i A B,Jx i A→T A B→Jx i B) →
     (∀ i x W,i < N→J i W→Lies i x W→YieldAt F (n - 1 - 1) P (w.heap.size+1) (encs x) W fun e W' =>
       (e=.returned (.bool true)∧J (i+1) W'∧R W W')∨(e=.returned (.bool false)∧Jx i W'∧RX W W')) →
     J 0 W1→CallsIn F (n - 1) P gf (#[.func (.yield (w.heap.size+1)) #[] #[]]++lb) W1 fun e W'=>(∃ v,e=.returned v)∧(J N W'∨∃ i,i < N∧Jx i W'))
   (hround:∀ i x W,i < N→I i W→Lies i x W→w.heap.size+1 < W.heap.size →
     assign.wpIn (F.inRound (w.heap.size+1)) (n - 1 - 1) P (Exit.then (fun a₁ W₁=>T W W₁∧TA W W₁∧I i W₁∧∀ o,body.wpIn (F.inRound (w.heap.size+1)) (n - 1 - 1) P (postZ (w.heap.size+1) w.heap.size (W₁.putObj (w.heap.size+1) o) (fun W'=>I (i+1) W'∧R (W₁.putObj (w.heap.size+1) o) W') (fun c W'=>Ix c i W'∧RX (W₁.putObj (w.heap.size+1) o) W')) a₁ (W₁.putObj (w.heap.size+1) o)) (fun _ _ _=>False)) { tmps:=(ps.zip (encs x)).foldl (fun t (p,v)=>t.setIfInBounds p v) a.tmps,defers:=[] } W)
   (hdone:∀ (W:World),I N W→W.heap[w.heap.size]? = some (.deferred (some []))→Q .normal { a with defers:={ target:=.collected w.heap.size,args:=#[] } :: a.defers } W)
   (hstop:∀ (c:Code) (i:Nat) (W:World),i < N→Ix c i W→W.heap[w.heap.size]? = some (.deferred (some []))→c.wpIn F n P Q { a with defers:={ target:=.collected w.heap.size,args:=#[] } :: a.defers } W) :
   (Code.rangeFunc g ps assign body).wpIn F n P Q a w:=by
 refine wpIn_rangeFunc ?_
 intro fn hfn
 rw [hro]
 obtain ⟨rec,hrec⟩:∃ rec:LoopState→Option Code→Loop,rec=fun st pe=>{ state:=st,pending:=pe,fn,tmps:=a.tmps,params:=ps,assign,body,defers:=w.heap.size }:=⟨_,rfl⟩
 obtain ⟨W1,hW1⟩:∃ W1,(w.alloc (.deferred (some []))).alloc (.loop (rec .ready none))=W1:=⟨_,rfl⟩
 have hL1:W1.heap[w.heap.size+1]? = some (.loop (rec .ready none)):=by
   rw [← hW1];have:=World.alloc_heap_new (w.alloc (.deferred (some []))) (.loop (rec .ready none));rwa [World.size_alloc] at this
 have hK1:W1.heap[w.heap.size]? = some (.deferred (some [])):=by
   rw [← hW1];exact (Below.heap_alloc _ _ _ (by simp)).trans (World.alloc_heap_new w _)
 have hb1:Below w.heap.size w W1:=by
   rw [← hW1];exact ((Below.refl _ w).alloc (Nat.le_refl _) _).alloc (by simp) _
 have hs1:W1.heap.size=w.heap.size+2:=by rw [← hW1];simp
 refine ⟨w.heap.size+1,[{ target:=.collected w.heap.size,args:=#[] }],W1,{ target:=.fn (.func gf) lb,args:=#[.func (.yield (w.heap.size+1)) #[] #[]] },W1,gf,
   #[.func (.yield (w.heap.size+1)) #[] #[]]++lb,W1,?_,?_,?_,?_,fun _=>h1,?_⟩
 · rw [← hW1,hrec];exact run_enterLoop_outer _ _ _ _ _
 · simp only [resolve,hg]
   simp [go_sem]
 · intro f' hf';simp [Target.leads] at hf';subst hf';exact hFg
 · simp [invoke,go_sem,eg]
 · refine (hseq W1
     (fun i W=>I i W∧W.heap[w.heap.size+1]? = some (.loop (rec .ready none))∧W.heap[w.heap.size]? = some (.deferred (some [])))
     (fun i W=>∃ c,Ix c i W∧W.heap[w.heap.size+1]? = some (.loop (rec .done (some c)))∧W.heap[w.heap.size]? = some (.deferred (some [])))
     hb1 hs1 (fun i A B h ht=>⟨hIT i A B h.1 ht,hTl A B ht _ _ (.inr rfl) h.2.1,hTl A B ht _ _ (.inl rfl) h.2.2⟩) (fun i A B ⟨c,h1,h2,h3⟩ ht=>⟨c,hIxT c i A B h1 ht,hTl A B ht _ _ (.inr rfl) h2,hTl A B ht _ _ (.inl rfl) h3⟩) ?_ ⟨h0 W1 hb1 hs1,hL1,hK1⟩).mono ?_
   · -- one round
     rintro i x W hx ⟨hi,hl,hk⟩ hLie
     have hlt:w.heap.size+1 < W.heap.size:=(Array.getElem?_eq_some_iff.1 hl).1
     have hy:=run_yield (P:=P) (args:=encs x) hl (by rw [hrec];exact hps x)
     rw [hrec] at hy
     refine ⟨fn,_,assign,body,hy,roundIn_of_wpIn hfn (wpIn_mono (hround i x W hx hi hLie hlt) ?_)⟩
     rintro e a1 V1 hp
     cases e with
     | normal =>
       obtain ⟨ht,hta,hi1,hbody⟩:=hp
       have hl1:=hTl W V1 ht _ _ (.inr rfl) hl
       have hk1:=hTl W V1 ht _ _ (.inl rfl) hk
       have hlt1:w.heap.size+1 < V1.heap.size:=(Array.getElem?_eq_some_iff.1 hl1).1
       refine ⟨_,run_beginRound hl1 (by rw [hrec]),?_⟩
       have hl2:(V1.putObj (w.heap.size+1) (.loop { rec .ready none with state:=.busy })).heap[w.heap.size+1]? = some (.loop { rec .ready none with state:=.busy }):=World.putObj_heap_same hlt1
       have hk2:(V1.putObj (w.heap.size+1) (.loop { rec .ready none with state:=.busy })).heap[w.heap.size]? = some (.deferred (some [])):=(World.putObj_heap_other (by omega)).trans hk1
       refine wpIn_mono (hbody (.loop { rec .ready none with state:=.busy })) ?_
       have fin:∀ (jump:Option Code) (W3:World),W3.heap[w.heap.size+1]? = (V1.putObj (w.heap.size+1) (.loop { rec .ready none with state:=.busy })).heap[w.heap.size+1]?∧W3.heap[w.heap.size]? = (V1.putObj (w.heap.size+1) (.loop { rec .ready none with state:=.busy })).heap[w.heap.size]? →
          (Instr.endRound (w.heap.size+1) jump).run P W3=.ok (.bool jump.isNone) (W3.putObj (w.heap.size+1) (.loop (rec (if jump.isNone then .ready else .done) jump))) ∧
          w.heap.size+1 < W3.heap.size ∧
          (W3.putObj (w.heap.size+1) (.loop (rec (if jump.isNone then .ready else .done) jump))).heap[w.heap.size+1]? = some (.loop (rec (if jump.isNone then .ready else .done) jump)) ∧
          (W3.putObj (w.heap.size+1) (.loop (rec (if jump.isNone then .ready else .done) jump))).heap[w.heap.size]? = some (.deferred (some [])):=fun jump W3 hk3=>by
         have hl3:=hk3.1.trans hl2
         have:=run_endRound (P:=P) jump hl3
         rw [hrec] at this ⊢
         exact ⟨this,(Array.getElem?_eq_some_iff.1 hl3).1,World.putObj_heap_same (Array.getElem?_eq_some_iff.1 hl3).1,(World.putObj_heap_other (by omega)).trans (hk3.2.trans hk2)⟩
       rintro e a3 W3 hp
       cases e with
       | normal =>
         obtain ⟨hk3,hi3,hr3⟩:=hp
         obtain ⟨hr,hl3,hl4,hk4⟩:=fin none W3 hk3
         exact ⟨_,_,hr,.inl ⟨rfl,⟨hIr _ _ _ hi3 hl3,hl4,hk4⟩,hRc i W V1 W3 _ _ hi hta hlt1 hr3⟩⟩
       | ret =>
         obtain ⟨hk3,hi3,hx3⟩:=hp
         obtain ⟨hr,hl3,hl4,hk4⟩:=fin (some .ret) W3 hk3
         exact ⟨_,_,hr,.inr ⟨rfl,⟨.ret,hIxr _ _ _ _ hi3 hl3,hl4,hk4⟩,hRXc W V1 W3 _ _ hta hlt1 hx3⟩⟩
       | exit id =>
         obtain ⟨hk3,hi3,hx3⟩:=hp
         obtain ⟨hr,hl3,hl4,hk4⟩:=fin (some (.exit id)) W3 hk3
         exact ⟨_,_,hr,.inr ⟨rfl,⟨.exit id,hIxr _ _ _ _ hi3 hl3,hl4,hk4⟩,hRXc W V1 W3 _ _ hta hlt1 hx3⟩⟩
       | goto t =>
         obtain ⟨hk3,hi3,hx3⟩:=hp
         obtain ⟨hr,hl3,hl4,hk4⟩:=fin (some (.goto t)) W3 hk3
         exact ⟨_,_,hr,.inr ⟨rfl,⟨.goto t,hIxr _ _ _ _ hi3 hl3,hl4,hk4⟩,hRXc W V1 W3 _ _ hta hlt1 hx3⟩⟩
       | panic ch=>exact hp.elim
       | outgrown=>exact hp.elim
     | ret=>exact hp.elim
     | exit id=>exact hp.elim
     | goto t=>exact hp.elim
     | panic ch=>exact hp.elim
     | outgrown=>exact hp.elim
   · -- the iterator has ended
     rintro e W ⟨⟨v,rfl⟩,h⟩
     rcases h with ⟨hi,hl,hk⟩|⟨i,hlen,c,hc,hl,hk⟩
     · exact ⟨none,_,by have:=run_endLoop (P:=P) hl (by rw [hrec];simp);rw [hrec] at this;exact this,hdone _ (hIr _ _ _ hi (Array.getElem?_eq_some_iff.1 hl).1) ((World.putObj_heap_other (by omega)).trans hk)⟩
     · exact ⟨some c,_,by have:=run_endLoop (P:=P) hl (by rw [hrec];simp);rw [hrec] at this;exact this,hstop c i _ hlen (hIxr _ _ _ _ hc (Array.getElem?_eq_some_iff.1 hl).1) ((World.putObj_heap_other (by omega)).trans hk)⟩
theorem flat_at {α β:Type} (g:α→List β) {D:List α} {q k:Nat} {d:α} {f:β} (h:D[q]? = some d) (hf:(g d)[k]? = some f):(D.flatMap g)[((D.take q).flatMap g).length+k]? = some f:=by
 have hq:q < D.length:=(List.getElem?_eq_some_iff.1 h).1
 have e:D.flatMap g=(D.take q).flatMap g++(g d++(D.drop (q+1)).flatMap g):=by
  rw [← List.flatMap_cons,← List.flatMap_append]
  congr 1
  have:=List.drop_eq_getElem_cons hq
  rw [(List.getElem?_eq_some_iff.1 h).2] at this
  rw [← this,List.take_append_drop]
 rw [e,List.getElem?_append_right (Nat.le_add_right ..),Nat.add_sub_cancel_left,List.getElem?_append_left (List.getElem?_eq_some_iff.1 hf).1,hf]
theorem flat_next {α β:Type} (g:α→List β) {D:List α} {q:Nat} {d:α} (h:D[q]? = some d):((D.take (q+1)).flatMap g).length=((D.take q).flatMap g).length+(g d).length:=by
 rw [List.take_add_one,h,List.flatMap_append,List.length_append]
 simp
theorem flat_lt {α β:Type} (g:α→List β) {D:List α} {q k:Nat} {d:α} (h:D[q]? = some d) (hk:k < (g d).length):((D.take q).flatMap g).length+k < (D.flatMap g).length:=
 (List.getElem?_eq_some_iff.1 (flat_at g h (List.getElem?_eq_getElem hk))).1
theorem all_upto {β:Type} {p:β→Bool} {l:List β} : (∀ (i:Nat) x,l[i]? = some x→p x=true)→l.all p=true:=fun h=>List.all_eq_true.2 (fun x hx=>by
 obtain ⟨i,hi⟩:=List.getElem?_of_mem hx
 exact h i x hi)
theorem all_not {β:Type} {p:β→Bool} {l:List β} {i:Nat} {x:β} (hx:l[i]? = some x) (h:p x=false):l.all p=false:=Bool.eq_false_iff.2 (fun h2=>by
 have:=List.all_eq_true.1 h2 x (List.mem_of_getElem? hx)
 rw [h] at this
 cases this)
def allF (D:List DefnT):List FieldT:=D.flatMap fun d=>d.fields
def allFP (D:List DefnT):List VarT:=(allF D).flatMap fun f=>f.params
def allDP (D:List DefnT):List VarT:=D.flatMap fun d=>d.params
def allPm (D:List DefnT):List VarT:=allFP D++allDP D
section
variable {X Y:Nat→Prop} {A B C:World}
theorem moz_cell (h:MoZ X A B) {b o:Nat} (hp:b < A.heap.size) (hx : ¬ X b):B.cell? ⟨b,o,none⟩=A.cell? ⟨b,o,none⟩:=World.cell?_of_block (a:=⟨b,o,none⟩) (h.block b hp hx)
theorem MoZ.of_below (h:Below A.heap.size A B):MoZ X A B:=⟨h.os,h.tape,h.output,h.size,fun b hb _=>h.block b hb⟩
theorem MoZ.refl:MoZ X A A:=⟨rfl,rfl,rfl,Nat.le_refl _,fun _ _ _=>rfl⟩
theorem MoZ.put {d:Nat} (hX:X d) (o:Obj):MoZ X A (A.putObj d o):=⟨rfl,rfl,rfl,by simp,fun _ _ hn=>World.putObj_heap_other (fun e=>hn (e ▸ hX))⟩
theorem MoZ.low {N:Nat} (h:MoZ X A B) (hX:∀ b,b < N→¬ X b) (hN:N≤A.heap.size):Below N A B:=⟨h.os,h.tape,h.output,h.size,fun b hb=>h.block b (Nat.lt_of_lt_of_le hb hN) (hX b hb)⟩
theorem MoZ.mono (h:MoZ X A B) (hXY:∀ b,X b→Y b):MoZ Y A B:=⟨h.os,h.tape,h.output,h.size,fun b hb hn=>h.block b hb (fun hx=>hn (hXY b hx))⟩
theorem MoZ.keep {P:Nat→Prop} (h:MoZ X A B) (hP:∀ b,P b→b < A.heap.size∧¬ X b) {e:TrS} {cs:List Value} (hT:TS A P e cs):TS B P e cs:=TS.keep (fun b hb=>⟨hb,h.block b (hP b hb).1 (hP b hb).2⟩) _ _ hT
theorem MoZ.heap {b:Nat} {o:Obj} (h:MoZ X A B) (hA:A.heap[b]? = some o) (hx : ¬ X b):B.heap[b]? = some o:=(h.block b (Array.getElem?_eq_some_iff.1 hA).1 hx).trans hA
end
theorem round_any {d m m':Nat} {P:Program} {l:Nat} {fn:FuncId} {tmps:Array Value} {assign body:Code} {w:World} {R:Ending→World→Prop} (h:RoundIn Fence.wide m P l fn tmps assign body w R):RoundIn (Fence.wide.inRound d) m' P l fn tmps assign body w R:=⟨h.1,fun c cs _=>h.2 c cs (room_wide _)⟩
theorem round_w {m m':Nat} {P:Program} {l:Nat} {fn:FuncId} {tmps:Array Value} {assign body:Code} {w:World} {R:Ending→World→Prop} (h:RoundIn Fence.wide m P l fn tmps assign body w R):RoundIn Fence.wide m' P l fn tmps assign body w R:=⟨h.1,fun c cs _=>h.2 c cs (room_wide _)⟩
def IterZ (gf:Nat) (lb:Array Value) (N:Nat) (Lies:Nat→List Value→World→Prop) (X:Nat→Prop) (W:World):Prop:=
 ∀ (l:Nat) (J:Nat→World→Prop) (Jx:Nat→World→Prop),(∀ i A B,J i A→Below W.heap.size A B→J i B)→(∀ i A B,Jx i A→Below W.heap.size A B→Jx i B) →
   (∀ i x V,i < N→J i V→Lies i x V→YieldAt Fence.wide 1 Tryz.prog l #[.agg x.toArray] V fun e V'=>(e=.returned (.bool true)∧J (i+1) V'∧MoZ X V V')∨(e=.returned (.bool false)∧Jx i V'∧MoZ (fun b=>b < W.heap.size) V V')) →
   J 0 W→CallsIn Fence.wide 2 Tryz.prog gf (#[.func (.yield l) #[] #[]]++lb) W fun e W'=>(∃ v,e=.returned v)∧(J N W'∨∃ i,i < N∧Jx i W')
def LiesF (D:List DefnT) (B:Nat) (i:Nat) (cs:List Value) (V:World):Prop:=∃ f,(allF D)[i]? = some f∧TS V (fun b=>b < B) (encField f) cs
def LiesV (D:List DefnT) (B:Nat) (i:Nat) (cs:List Value) (V:World):Prop:=∃ p,(allPm D)[i]? = some p∧TS V (fun b=>b < B) (encVar p) cs
attribute [local go_sem] Oper.semAt_some
theorem fields_any (A:Option Addr) (n k:Nat) (q m:ByteArray) (w:World) :
  Calls Tryz.prog 106 #[.agg #[.slice A n k,.string q,.string m]] w fun e w'=>e=.returned (.func (.func 152) #[] #[.pointer (some ⟨w.heap.size,0,none⟩)])∧w'=w.alloc (.cells #[.slice A n k,.string q,.string m] 24):=by
 go_enter Tryz.func106,Tryz.ntmps106
 go_wp2_with fail
 go_ret
 exact ⟨rfl,rfl⟩
theorem flat_end {α β:Type} (g:α→List β) (D:List α):((D.take D.length).flatMap g).length=(D.flatMap g).length:=by rw [List.take_length]
theorem fields_in (S:SchT) (sb B:Nat) (c0 c1 c2:Value) (X:Nat→Prop) (W:World) (hX:∀ b,X b→b < W.heap.size∧B≤b∧b ≠ sb) (hBW:B≤W.heap.size) (hbox:W.heap[sb]? = some (.cells #[c0,c1,c2] 24 (0,0))) (hS:TS W (fun b=>b < B) (encSch S) [c0,c1,c2]) :
  IterZ 152 #[.pointer (some ⟨sb,0,none⟩)] (allF S.defs).length (LiesF S.defs B) X W:=by
 intro l J Jx hJ _ hY hJ0
 have HJ:=Hd hJ
 have HY:=Hd hY
 have HJ0:=Hd hJ0
 have HX:=Hd hX
 have HB:=Hd hBW
 have HBX:=Hd hbox
 have HXB:Hid (∀ b,b < B→¬ X b):=Hd (fun b hb hx=>by have:=(hX b hx).2.1;omega)
 obtain ⟨A,k,e,hl,hR⟩:=sch_cells hS
 injection e with e0 e
 injection e with e1 e
 injection e with e2 e
 subst e0 e1 e2
 have HR:=Hd hR
 obtain ⟨y0,y1,y2⟩:=three_cells hbox
 clear hJ hY hJ0 hX hBW hbox hS hR e
 refine callsIn_wide.2 ?_
 rw [show (#[.func (.yield l) #[] #[]] ++ #[.pointer (some ⟨sb,0,none⟩)]:Array Value)=#[.func (.yield l) #[] #[],.pointer (some ⟨sb,0,none⟩)] from rfl]
 go_enter Tryz.func152,Tryz.ntmps152
 go_wp2_with fail
 clear y0 y1 y2
 go_loopg [10] S.defs.length (fun g i wx=>∃ q:Nat,q+g=S.defs.length∧i=.int .i64 q∧Aside (J ((S.defs.take q).flatMap fun d=>d.fields).length wx∧MoZ X W wx))
 case atStart=>exact ⟨0,by omega,rfl,Blk.Aside.intro ⟨HJ0.out,MoZ.refl⟩⟩
 case round =>
  obtain ⟨q,hq,rfl,hx⟩:=hrel
  have J1:=Hd hx.out.1
  have M1:=Hd hx.out.2
  clear hx
  cases gk with
  | zero =>
    obtain rfl:q=S.defs.length:=by omega
    have HF:=Hd J1.out
    rw [flat_end] at HF
    go_wp2_with fail
    go_end0
    exact ⟨⟨_,rfl⟩,.inl HF.out⟩
  | succ g =>
    have hqn:q < S.defs.length:=by omega
    have hqn':(q:Int) < (S.defs.length:Int):=by omega
    obtain ⟨d,hx⟩:∃ x,S.defs[q]? = some x:=⟨_,List.getElem?_eq_getElem hqn⟩
    obtain ⟨b,o,cs,rfl,hb,hc,hT⟩:=rowOf_at 6 defn_len HR.out hx
    have HBL:=Hd (Nat.lt_of_lt_of_le hb HB.out)
    have HBN:=Hd (HXB.out b hb)
    obtain ⟨Af,kf,Ax,kx,Ap,kp,Am,km,rfl,_,_,⟨hfl,hf⟩,_⟩:=defn_cells hT
    have g0:=(moz_cell M1.out (o:=o+q*6) HBL.out HBN.out).trans (hc 0 _ rfl)
    have g1:=(moz_cell M1.out (o:=o+q*6+1) HBL.out HBN.out).trans (hc 1 _ rfl)
    have g2:=(moz_cell M1.out (o:=o+q*6+2) HBL.out HBN.out).trans (hc 2 _ rfl)
    have g3:=(moz_cell M1.out (o:=o+q*6+3) HBL.out HBN.out).trans (hc 3 _ rfl)
    have g4:=(moz_cell M1.out (o:=o+q*6+4) HBL.out HBN.out).trans (hc 4 _ rfl)
    have g5:=(moz_cell M1.out (o:=o+q*6+5) HBL.out HBN.out).trans (hc 5 _ rfl)
    have HD:=Hd hx
    have HF:=Hd hf
    clear hx hb hc hT hf
    go_upto_region 3 with fail
    clear g0 g1 g2 g3 g4 g5
    have bn:=dbelow_new wr (.cells #[.int .i64 d.kind,.string d.name,.slice Af d.faces.length kf,.slice Ax d.fields.length kx,.slice Ap d.parts.length kp,.slice Am d.params.length km] 37)
    have J2:=Hd (HJ.out _ _ _ J1.out (bn.mono M1.out.size))
    have M2:=Hd (M1.out.trans (MoZ.of_below bn))
    have Y2:=Hd (heap_alloc_new wr (.cells #[.int .i64 d.kind,.string d.name,.slice Af d.faces.length kf,.slice Ax d.fields.length kx,.slice Ap d.parts.length kp,.slice Am d.params.length km] 37))
    have HSZ:=Hd M1.out.size
    generalize wr.alloc (.cells #[.int .i64 d.kind,.string d.name,.slice Af d.faces.length kf,.slice Ax d.fields.length kx,.slice Ap d.parts.length kp,.slice Am d.params.length km] 37)=w2 at J2 M2 Y2 ⊢
    generalize wr.heap.size=gd at Y2 HSZ ⊢
    clear bn J1 M1
    obtain ⟨⟨y0,y1,y2,y3,y4,y5⟩,_⟩:=six_cells Y2.out
    go_wp2_with fail
    clear y0 y1 y2 y3 y4 y5
    have HNX:Hid (¬ X gd):=Hd (fun hx=>by have h1:=(HX.out gd hx).1;have h2:=HSZ.out;omega)
    go_loopg [17] d.fields.length (fun g2 i wx=>∃ z:Nat,z+g2=d.fields.length∧i=.int .i64 z∧Aside (J (((S.defs.take q).flatMap fun d=>d.fields).length+z) wx∧MoZ X W wx))
    case atStart=>exact ⟨0,by omega,rfl,Blk.Aside.intro ⟨J2.out,M2.out⟩⟩
    case round =>
     obtain ⟨z,hz,rfl,hx⟩:=hrel
     have J3:=Hd hx.out.1
     have M3:=Hd hx.out.2
     clear hx J2 M2 Y2
     cases gk with
     | zero =>
       obtain rfl:z=d.fields.length:=by omega
       have J4:Hid (J ((S.defs.take (q+1)).flatMap fun d=>d.fields).length wr):=Hd (by rw [flat_next _ HD.out];exact J3.out)
       go_wp2_with fail
       go_roundg g
       case measure=>omega
       case rel=>exact ⟨q+1,by omega,by go_num,Blk.Aside.intro ⟨J4.out,M3.out⟩⟩
     | succ g2 =>
       have hzn:z < d.fields.length:=by omega
       have hzn':(z:Int) < (d.fields.length:Int):=by omega
       obtain ⟨f,hf⟩:∃ x,d.fields[z]? = some x:=⟨_,List.getElem?_eq_getElem hzn⟩
       obtain ⟨b2,o2,cs2,rfl,hb2,hc2,hT2⟩:=rowOf_at 6 len_fld HF.out hf
       have HL2:=Hd (Nat.lt_of_lt_of_le hb2 HB.out)
       have HN2:=Hd (HXB.out b2 hb2)
       have HAT:=Hd (flat_at (fun d:DefnT=>d.fields) HD.out hf)
       have HLT:=Hd (flat_lt (fun d:DefnT=>d.fields) HD.out hzn)
       obtain ⟨Bp,jp,Bd,jd,rfl,_⟩:=fld_cells hT2
       have g0:=(moz_cell M3.out (o:=o2+z*6) HL2.out HN2.out).trans (hc2 0 _ rfl)
       have g1:=(moz_cell M3.out (o:=o2+z*6+1) HL2.out HN2.out).trans (hc2 1 _ rfl)
       have g2:=(moz_cell M3.out (o:=o2+z*6+2) HL2.out HN2.out).trans (hc2 2 _ rfl)
       have g3:=(moz_cell M3.out (o:=o2+z*6+3) HL2.out HN2.out).trans (hc2 3 _ rfl)
       have g4:=(moz_cell M3.out (o:=o2+z*6+4) HL2.out HN2.out).trans (hc2 4 _ rfl)
       have g5:=(moz_cell M3.out (o:=o2+z*6+5) HL2.out HN2.out).trans (hc2 5 _ rfl)
       have HT:=Hd hT2
       clear hf hb2 hc2 hT2
       go_upto_region 6 with fail
       clear g0 g1 g2 g3 g4 g5
       have bn:=dbelow_new wr (.cells #[.string f.name,.slice Bp f.params.length jp,.string f.tn,.int .i64 f.tl,.int .i64 f.tm,.slice Bd f.dirs.length jd] 46)
       have J4:=Hd (HJ.out _ _ _ J3.out (bn.mono M3.out.size))
       have M4:=Hd (M3.out.trans (MoZ.of_below bn))
       have Y4:=Hd (heap_alloc_new wr (.cells #[.string f.name,.slice Bp f.params.length jp,.string f.tn,.int .i64 f.tl,.int .i64 f.tm,.slice Bd f.dirs.length jd] 46))
       generalize wr.alloc (.cells #[.string f.name,.slice Bp f.params.length jp,.string f.tn,.int .i64 f.tl,.int .i64 f.tm,.slice Bd f.dirs.length jd] 46)=w4 at J4 M4 Y4 ⊢
       generalize wr.heap.size=gf at Y4 ⊢
       clear bn J3 M3
       obtain ⟨⟨y0,y1,y2,y3,y4,y5⟩,_⟩:=six_cells Y4.out
       obtain ⟨fn,tmps,assign,body,hy,hRd⟩:=HY.out _ [.string f.name,.slice Bp f.params.length jp,.string f.tn,.int .i64 f.tl,.int .i64 f.tm,.slice Bd f.dirs.length jd] w4 HLT.out J4.out ⟨f,HAT.out,M4.out.keep (fun b hb=>⟨Nat.lt_of_lt_of_le hb HB.out,HXB.out b hb⟩) HT.out⟩
       have hy:(Instr.yield l #[.agg #[.string f.name,.slice Bp f.params.length jp,.string f.tn,.int .i64 f.tl,.int .i64 f.tm,.slice Bd f.dirs.length jd]]).run Tryz.prog w4=.ok (.round l fn tmps assign body) w4:=hy
       have HRD:=Hd hRd
       clear hRd
       refine (wpIn_wide (n:=2)).1 ?_
       gi_wp2
       refine HRD.out.mono ?_
       rintro e w5 (⟨rfl,hj,hm⟩|⟨rfl,hj,_⟩)
       · have J5:=Hd hj
         have M5:=Hd (M4.out.trans hm)
         clear hj hm y0 y1 y2 y3 y4 y5 hy
         gi_wp2
         go_wp2_with fail
         go_roundg g2
         case measure=>omega
         case rel=>exact ⟨z+1,by omega,by go_num,Blk.Aside.intro ⟨J5.out,M5.out⟩⟩
       · have J5:=Hd hj
         clear hj y0 y1 y2 y3 y4 y5 hy
         gi_wp2
         go_wp2_with fail
         refine bodyPost_ret (results_none rfl _ _ _) rfl ?_
         exact ⟨⟨_,rfl⟩,.inr ⟨_,HLT.out,J5.out⟩⟩
end Go.Proofs.YtaekdfcpbepepaaGreatDoor
