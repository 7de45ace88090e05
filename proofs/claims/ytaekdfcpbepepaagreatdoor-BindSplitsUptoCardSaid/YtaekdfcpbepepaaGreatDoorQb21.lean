/- value.within once more: where the row that it answers lies. -/
import Derived.Test.YtaekdfcpbepepaaGreatDoorQb15
set_option maxRecDepth 100000
set_option maxHeartbeats 4000000
namespace Go.Proofs.YtaekdfcpbepepaaGreatDoor
open Go.RowKit
def RowX (w:World) (lo B:Nat) (l:VL) (A:Option Addr):Prop:=∀ (j:Nat) v,l.get j=some v→∃ b o c0 c1 c2 c3 c4,A=some ⟨b,o,none⟩∧(b < B∨lo≤b)∧b < w.heap.size∧Five w b (o+j*5) c0 c1 c2 c3 c4∧VAt w B v c0 c1 c2 c3 c4
theorem RowX.of_list {w:World} {lo B:Nat} {l:VL} {A:Option Addr} (hB:B≤w.heap.size) (h:LAt w B l A 0):RowX w lo B l A:=fun j v hv=>by
 obtain ⟨b,o,c0,c1,c2,c3,c4,hA,hlt,hf,hV⟩:=LAt.at h hv
 rw [Nat.zero_add] at hf
 exact ⟨b,o,c0,c1,c2,c3,c4,hA,.inl hlt,Nat.lt_of_lt_of_le hlt hB,hf,hV⟩
theorem RowX.none {w:World} {lo B:Nat} {A:Option Addr} : RowX w lo B .nil A:=fun j v hj=>by simp [VL.get] at hj
theorem RB.rowx {base n G B lo:Nat} {l:VL} {w:World} (h:RB base n G B l w n) (hl:l.len=n) (hG:lo≤G:=by omega):RowX w lo B l (some ⟨G,0,none⟩):=by
 intro j v hj
 obtain ⟨b,o,c0,c1,c2,c3,c4,hA,hlt,hf,hV⟩:=RB.row h hl j v hj
 refine ⟨b,o,c0,c1,c2,c3,c4,hA,.inr ?_,hlt,hf,hV⟩
 injection hA with e
 injection e with e
 omega
def WithinX (v:VT):Prop:=∀ (c0 c1 c2 c3 c4:Value) (w:World) (B:Nat),B≤w.heap.size→VAt w B v c0 c1 c2 c3 c4 →
 Calls Tryz.prog 201 #[.agg #[c0,c1,c2,c3,c4]] w fun e w'=>∃ A c,e=.returned (.slice A v.kids.len c)∧RowX w' w.heap.size B v.kids A∧Below w.heap.size w w'
theorem withinx_said {w' w:World} {lo B:Nat} {v:VT} {l:VL} {A:Option Addr} {c:Nat} (hk:v.kids=l) (hr:RowX w' lo B l A) (hb:Below w.heap.size w w'):∃ A' c',Ending.returned (.slice A l.len c)=.returned (.slice A' v.kids.len c')∧RowX w' lo B v.kids A'∧Below w.heap.size w w':=
 ⟨A,c,by rw [hk],by rw [hk];exact hr,hb⟩
theorem within_x (v:VT) (hz:sizeV v≤9000):WithinX v:=by
 intro c0 c1 c2 c3 c4 w B hB hv
 obtain ⟨k,n,s,l,m⟩:=v
 have hml:m.len≤9000:=by rw [sizeV] at hz;have:=lenM_le m;omega
 unfold VAt at hv
 obtain ⟨rfl,rfl,rfl,_,⟨A,c,rfl,hl,hL⟩,A',c',rfl,hm,hM⟩:=hv
 have hb0:Below w.heap.size w (w.alloc (.cells #[.int .i64 k,.int .i64 n,.string s,.slice A l.len c,.slice A' m.len c'] 58)):=(Below.refl _ _).alloc (Nat.le_refl _) _
 have HB:=Hd hb0
 have HB0:=Hd hB
 have HL:=Hd hL
 have HM:=Hd hM
 clear hL hM hB hb0 hz
 by_cases k6:k=6
 · subst k6
   go_enter Tryz.func201,Tryz.ntmps201
   go_wp2_with fail
   go_ret
   exact withinx_said (kids_list _ _ _ _) (RowX.of_list (Nat.le_trans HB0.out HB.out.size) (LAt.below (HB.out.mono HB0.out) _ _ _ HL.out)) HB.out
 · by_cases k7:k=7
   · subst k7
     obtain ⟨i0,hi,hz0,hz1,hz2⟩:=info_parts info_val
     clear k6
     go_enter Tryz.func201,Tryz.ntmps201
     have hbox4:Hid ((w.alloc (.cells #[.int .i64 7,.int .i64 n,.string s,.slice A l.len c,.slice A' m.len c'] 58)).cell? ⟨w.heap.size,4,none⟩=some (.slice A' m.len c')):=Hd (by rw [World.cell?_alloc_at _ _ _ _ rfl];rfl)
     go_wp2_with (at_make;refine wpList_make_full _ rfl _ _ 55 rfl w.heap.size 58 i0 _ 5 Tryz.underlying55 hi hz0 hz1 .i64 .i64 _ _ m.len rfl rfl (by first|rfl|omega) (by first|rfl|omega) (by rw [hz2];omega) (by unfold maxLen;omega) (by simp) ?_;intro w2 hown hgr;have hb2:=(Below.refl _ _).grown hgr (Nat.le_refl _) (fun k h=>by cases h);have hc4:w2.cell? ⟨w.heap.size,4,none⟩=some (.slice A' m.len c'):=(hb2.cell (p:=⟨w.heap.size,4,none⟩) (by simp)).trans hbox4.out;have HB2:=Hd (HB.out.trans (hb2.mono HB.out.size));have HO:=Hd hown;clear hown hgr hb2)
     have hsz:(w.alloc (.cells #[.int .i64 7,.int .i64 n,.string s,.slice A l.len c,.slice A' m.len c'] 58)).heap.size=w.heap.size+1:=by simp
     rw [hsz] at HO
     clear hsz hc4 hbox4 HB
     go_loopg [21] m.len (fun g i wx=>∃ q:Nat,q+g=m.len∧i=.int .i64 q∧Below w.heap.size w wx∧Aside (RB w.heap.size m.len (w.heap.size+1) B m.vals wx q))
     case atStart=>exact ⟨0,by omega,rfl,HB2.out,vaside ⟨_,HO.out,fun j v hj=>absurd hj (Nat.not_lt_zero _)⟩⟩
     case round =>
      obtain ⟨q,hq,rfl,hb,HA⟩:=hrel
      have HBB:=Hd hb
      clear hb HO HB2
      cases gk with
      | zero =>
        obtain rfl:q=m.len:=by omega
        go_wp2_with fail
        go_ret
        exact ⟨some ⟨w.heap.size+1,0,none⟩,m.len,by rw [kids_map,VM.len_vals];rfl,by rw [kids_map];exact RB.rowx HA (VM.len_vals m),HBB.out⟩
      | succ g =>
        have hqn:q < m.len:=by omega
        have hqn':(q:Int) < (m.len:Int):=by omega
        obtain ⟨⟨nm,v⟩,hv⟩:=VM.get_lt hqn
        obtain ⟨b,o,d0,d1,d2,d3,d4,rfl,hblt,hnm,_,hF,hV⟩:=MAt.at (MAt.below (HBB.out.mono HB0.out) _ _ _ HM.out) hv
        rw [Nat.zero_add] at hF hnm
        have hV0:=Hd hV
        have HV:=Hd (VM.get_vals hv)
        obtain ⟨vk,vn,vs,vl,vm⟩:=v
        unfold VAt at hV
        obtain ⟨rfl,rfl,rfl,_,⟨A3,c3',rfl,_,_⟩,A4,c4',rfl,_,_⟩:=hV
        obtain ⟨f0,f1,f2,f3,f4⟩:=hF
        obtain ⟨xs,hown,hfill⟩:=HA
        have hlen:=hown.1
        obtain ⟨z0,hz0'⟩:∃ z,xs[q*5]? = some z:=⟨_,List.getElem?_eq_getElem (by omega)⟩
        obtain ⟨z1,hz1'⟩:∃ z,xs[q*5+1]? = some z:=⟨_,List.getElem?_eq_getElem (by omega)⟩
        obtain ⟨z2,hz2'⟩:∃ z,xs[q*5+2]? = some z:=⟨_,List.getElem?_eq_getElem (by omega)⟩
        obtain ⟨z3,hz3'⟩:∃ z,xs[q*5+3]? = some z:=⟨_,List.getElem?_eq_getElem (by omega)⟩
        obtain ⟨z4,hz4'⟩:∃ z,xs[q*5+4]? = some z:=⟨_,List.getElem?_eq_getElem (by omega)⟩
        have hat:=fun i u (hi:xs[i]? = some u)=>(World.ownsRow.cellAt hown i (by rw [← hlen];exact (List.getElem?_eq_some_iff.1 hi).1)).trans hi
        have y0:=hat _ _ hz0'
        have y1:=hat _ _ hz1'
        have y2:=hat _ _ hz2'
        have y3:=hat _ _ hz3'
        have y4:=hat _ _ hz4'
        have hGlt:w.heap.size+1 < wr.heap.size:=(hown.lt _ rfl).2
        have q0:=not_frozen hown (q*5)
        have q1:=not_frozen hown (q*5+1)
        have q2:=not_frozen hown (q*5+2)
        have q3:=not_frozen hown (q*5+3)
        have q4:=not_frozen hown (q*5+4)
        have HO:=Hd hown
        have HFI:=Hd hfill
        have HZ:=Hd (And.intro hz0' (And.intro hz1' (And.intro hz2' (And.intro hz3' hz4'))))
        clear hat hz0' hz1' hz2' hz3' hz4' hown hfill hlen hv
        go_wp2_with fail
        go_roundg g
        case measure=>omega
        case rel=>exact ⟨q+1,by omega,by go_num,stored_below HBB.out (Nat.le_succ _),vaside (stored_filled HB0.out HBB.out (Nat.le_succ _) HO.out HFI.out hqn HV.out hV0.out)⟩
   · have e6:(k == 6)=false:=by simpa using k6
     have e7:(k == 7)=false:=by simpa using k7
     have hk:=Hd (kids_none k n s l m k6 k7)
     clear k6 k7
     go_enter Tryz.func201,Tryz.ntmps201
     go_wp2_with fail
     go_ret
     exact withinx_said (c:=0) (A:=none) hk.out (fun j v hj=>by simp [VL.get] at hj) HB.out
theorem allTo_room:∀ {l:VL} {j:Nat} {v:VT},l.get j=some v→(allTo l j).length+sizeV v≤sizeL l
 | .nil,_,_,h=>by simp [VL.get] at h
 | .cons u t,0,v,h=>by
   have:u=v:=by simpa [VL.get] using h
   subst this
   rw [allTo_zero,sizeL];simp
 | .cons u t,j+1,v,h=>by
   have:=allTo_room (l:=t) (j:=j) (v:=v) h
   have:=all_len u
   rw [allTo,sizeL,List.length_append];omega
theorem plain_boolV_inv {P:Program} {e:TypeId} (he:P.underlying e=some .bool) {v:Value} {z:DataW Unit × List MemPlace} (h:plainElem P e v=some z):∃ x,v=.bool x∧z=(.lit (.bool x),[]):=by
 unfold plainElem at h
 rw [he] at h
 cases v<;>simp at h
 exact ⟨_,rfl,h.symm⟩
def SeenV (D:DataW Unit) (out:List ByteArray):Prop:=Maps.IsMap D∧∀ s:ByteArray,D.atKey (.string s.data.toList) (.lit (.bool false))=.lit (.bool (hasV out s))
theorem SeenV.nil:SeenV (.map []) []:=⟨Maps.isMap_empty,fun _=>rfl⟩
theorem SeenV.put {D:DataW Unit} {out:List ByteArray} (h:SeenV D out) (s:ByteArray):SeenV (D.put (.string s.data.toList) (.lit (.bool true))) (out++[s]):=by
 refine ⟨h.1.put _ _,fun t=>?_⟩
 by_cases e:t.data.toList=s.data.toList
 · rw [e,Maps.atKey_put_same h.1 (by trivial)]
   have:t=s:=ByteArray.ext (Array.toList_inj.1 e)
   subst this
   rw [show hasV (out++[t]) t=true from hasV_iff.2 (by simp)]
 · rw [Maps.atKey_put_other (fun e'=>e (by injection e')),h.2 t]
   have:hasV (out++[s]) t=hasV out t:=by
    unfold hasV
    rw [List.any_append]
    have:(s.data.toList == t.data.toList)=false:=beq_eq_false_iff_ne.2 (fun e'=>e e'.symm)
    simp only [List.any_cons,List.any_nil,this,Bool.or_false]
   rw [this]
def SeenAt (b:Nat) (w:World) (V:Value) (out:List ByteArray):Prop:=
 w.heap[b+1]? = some (.cells #[V] 32 (0,0))∧w.heap[b+3]? = some (.cells #[.map (some (b+2))] 123 (0,0)) ∧
 w.heap[b+4]? = some (.cells #[.func (.func 237) #[] #[.pointer (some ⟨b+3,0,none⟩),.pointer (some ⟨b+1,0,none⟩),.pointer (some ⟨b+4,0,none⟩)]] 218 (0,0)) ∧
 w.ownsRow (b+5) 9 1 V out.length (out.map .string)∧∃ D:DataW Unit,w.ownsMap Tryz.prog 9 (plainElem Tryz.prog 4) (b+2) out.length D∧SeenV D out
structure Kept3 (b:Nat) (w w':World) (V V':Value):Prop where
 os:w'.os=w.os
 tape:w'.tape=w.tape
 output:w'.output=w.output
 size:w.heap.size≤w'.heap.size
 block:∀ k,k < w.heap.size→k ≠ b+1→k ≠ b+2→V.ownBlock ≠ some k→w'.heap[k]? = w.heap[k]?
 own:∀ k,V'.ownBlock=some k→V.ownBlock=some k∨w.heap.size≤k
theorem Kept3.of_below {b:Nat} {w w':World} {V:Value} (h:Below w.heap.size w w'):Kept3 b w w' V V:=⟨h.os,h.tape,h.output,h.size,fun k hk _ _ _=>h.block k hk,fun _ hk=>.inl hk⟩
theorem Kept3.trans {b:Nat} {w w1 w2:World} {V V1 V2:Value} (h:Kept3 b w w1 V V1) (h':Kept3 b w1 w2 V1 V2):Kept3 b w w2 V V2:=by
 have hs:=h.size
 refine ⟨h'.os.trans h.os,h'.tape.trans h.tape,h'.output.trans h.output,Nat.le_trans hs h'.size,fun k hk h1 h2 h3=>?_,fun k hk=>?_⟩
 · refine (h'.block k (by omega) h1 h2 (fun e=>?_)).trans (h.block k hk h1 h2 h3)
   rcases h.own k e with h|h
   · exact h3 h
   · omega
 · rcases h'.own k hk with h1|h1
   · exact h.own k h1
   · exact .inr (Nat.le_trans hs h1)
theorem SeenAt.low {b:Nat} {w:World} {V:Value} {out:List ByteArray} (h:SeenAt b w V out):b+4 < w.heap.size:=by
 have:=h.2.2.1
 exact (Array.getElem?_eq_some_iff.1 this).1
theorem SeenAt.own {b:Nat} {w:World} {V:Value} {out:List ByteArray} (h:SeenAt b w V out):∀ k,V.ownBlock=some k→b+5≤k∧k < w.heap.size:=h.2.2.2.1.lt
theorem Kept3.below {b B:Nat} {w w':World} {V V':Value} {out:List ByteArray} (h:Kept3 b w w' V V') (hs:SeenAt b w V out) (hB:B≤b+1):Below B w w':=
 ⟨h.os,h.tape,h.output,h.size,fun k hk=>h.block k (by have:=hs.low;omega) (by omega) (by omega) (fun e=>by have:=(hs.own k e).1;omega)⟩
theorem SeenAt.below {b:Nat} {w w':World} {V:Value} {out:List ByteArray} (h:SeenAt b w V out) (hb:Below w.heap.size w w'):SeenAt b w' V out:=by
 have hl:=h.low
 obtain ⟨h1,h2,h3,h4,D,h5,h6⟩:=h
 exact ⟨(hb.block _ (by omega)).trans h1,(hb.block _ (by omega)).trans h2,(hb.block _ (by omega)).trans h3,own_low h4 hb,D,h5.kept (row:=none) ⟨hb.os,hb.tape,hb.output,hb.size,fun k hk _=>hb.block k hk⟩ (by simp),h6⟩
def RowN (b:Nat) (w:World) (V:Value) (B:Nat) (l:VL) (A:Option Addr):Prop:=∀ (j:Nat) v,l.get j=some v→∃ g o c0 c1 c2 c3 c4,A=some ⟨g,o,none⟩∧g ≠ b+1∧g ≠ b+2∧V.ownBlock ≠ some g∧g < w.heap.size∧Five w g (o+j*5) c0 c1 c2 c3 c4∧VAt w B v c0 c1 c2 c3 c4
theorem RowX.seen {b B:Nat} {w w':World} {V:Value} {out:List ByteArray} {l:VL} {A:Option Addr} (h:RowX w' w.heap.size B l A) (hs:SeenAt b w V out) (hB:B≤b):RowN b w' V B l A:=fun j v hv=>by
 obtain ⟨g,o,c0,c1,c2,c3,c4,hA,hg,hlt,hf,hV⟩:=h j v hv
 have hl:=hs.low
 exact ⟨g,o,c0,c1,c2,c3,c4,hA,by omega,by omega,fun e=>by have:=hs.own g e;omega,hlt,hf,hV⟩
theorem RowN.kept {b B:Nat} {w w':World} {V V':Value} {out:List ByteArray} {l:VL} {A:Option Addr} (h:RowN b w V B l A) (hs:SeenAt b w V out) (hk:Kept3 b w w' V V') (hB:B≤b):RowN b w' V' B l A:=fun j v hv=>by
 obtain ⟨g,o,c0,c1,c2,c3,c4,hA,g1,g2,g3,hlt,hf,hV⟩:=h j v hv
 have hgk:=hk.block g hlt g1 g2 g3
 have hc:=fun i=>World.cell?_of_block (a:=⟨g,i,none⟩) (w:=w) (w':=w') hgk
 refine ⟨g,o,c0,c1,c2,c3,c4,hA,g1,g2,fun e=>?_,Nat.lt_of_lt_of_le hlt hk.size,⟨(hc _).trans hf.1,(hc _).trans hf.2.1,(hc _).trans hf.2.2.1,(hc _).trans hf.2.2.2.1,(hc _).trans hf.2.2.2.2⟩,VAt.below (hk.below hs (by omega)) _ _ _ _ _ _ hV⟩
 rcases hk.own g e with h|h
 · exact g3 h
 · omega
theorem one_cell {w:World} {g:Nat} {u:Value} {t:TypeId} (h:w.heap[g]? = some (.cells #[u] t (0,0))):w.cell? ⟨g,0,none⟩=some u∧w.frozen? ⟨g,0,none⟩=false:=by
 constructor
 · simp only [World.cell?,h];rfl
 · simp [World.frozen?,h]
theorem zero_boolV (w:World):(zeroValue 4).run Tryz.prog w=.ok (.bool false) w:=by rfl
theorem SeenAt.look {b:Nat} {w:World} {V:Value} {out:List ByteArray} (h:SeenAt b w V out) (s:ByteArray) (hs:s.size≤maxLen):(Instr.lookup 123 (.map (some (b+2))) (.string s) false).run Tryz.prog w=.ok (.bool (hasV out s)) w:=by
 obtain ⟨_,_,_,_,D,hm,hD⟩:=h
 have hkey:=WideMaps.keyOf_string_mk (P:=Tryz.prog) Tryz.underlying9 hs
 obtain ⟨v,ps,hrun,hv⟩:=hm.lookup (Maps.string_keyed Tryz.underlying9) Tryz.underlying123 (zero_boolV w) (plainElem_bool Tryz.underlying4 false) hkey
 obtain ⟨x,rfl,hx⟩:=plain_boolV_inv Tryz.underlying4 hv
 have e:x=hasV out s:=by
  have e1:=congrArg Prod.fst hx
  rw [hD.2 s] at e1
  injection e1 with e1
  injection e1 with e1
  exact e1.symm
 rw [hrun,e]
theorem SeenAt.more {b:Nat} {w w1 w2:World} {V V2:Value} {out:List ByteArray} {s:ByteArray} {D:DataW Unit} {o:Obj} (h:SeenAt b w V out) (hD:SeenV D out)
   (hm:w1.ownsMap Tryz.prog 9 (plainElem Tryz.prog 4) (b+2) (out.length+1) (D.put (.string s.data.toList) (.lit (.bool true)))) (hg1:w.grownBy w1 (some (b+2)))
   (hown:w2.ownsRow (b+5) 9 1 V2 (out.length+1) (out.map .string++[.string s])) (hg2:(w1.alloc o).grownBy w2 V.ownBlock) (hV2:∀ k,V2.ownBlock=some k→V.ownBlock=some k∨w1.heap.size≤k) :
   SeenAt b (w2.setCell ⟨b+1,0,none⟩ V2) V2 (out++[s])∧Kept3 b w (w2.setCell ⟨b+1,0,none⟩ V2) V V2:=by
 have hl:=h.low
 have ho:=h.own
 have hs1:=hg1.size
 have hs2:=hg2.size
 have hal:(w1.alloc o).heap.size=w1.heap.size+1:=by simp
 obtain ⟨h1,h2,h3,h4,_⟩:=h
 have hk:∀ k,k < w.heap.size→k ≠ b+2→V.ownBlock ≠ some k→w2.heap[k]? = w.heap[k]?:=fun k hk e2 e3 =>
   (hg2.block k (by omega) (fun e=>e3 e.symm)).trans ((Below.heap_alloc _ _ _ (by omega)).trans (hg1.block k hk (fun e=>e2 (by injection e))))
 have hV:∀ k,k≤b+4→V.ownBlock ≠ some k:=fun k hk e=>by have:=(ho k e).1;omega
 have hset:∀ k,k ≠ b+1→(w2.setCell ⟨b+1,0,none⟩ V2).heap[k]? = w2.heap[k]?:=fun k hk=>Below.heap_setCell _ _ _ _ hk
 have hV2':V2.ownBlock ≠ some (b+1):=fun e=>by have:=(hown.lt _ e).1;omega
 have hset2:w2.grownBy (w2.setCell ⟨b+1,0,none⟩ V2) (some (b+1)):=⟨rfl,rfl,rfl,by simp [World.setCell],fun k _ hk=>Below.heap_setCell _ _ _ _ (fun e=>hk (by rw [e]))⟩
 refine ⟨⟨?_,?_,?_,?_,D.put (.string s.data.toList) (.lit (.bool true)),?_,hD.put s⟩,?_⟩
 · exact heap_setCell_same _ (b+1) 0 _ _ _ ((hk (b+1) (by omega) (by omega) (hV _ (by omega))).trans h1)
 · exact (hset _ (by omega)).trans ((hk _ (by omega) (by omega) (hV _ (by omega))).trans h2)
 · exact (hset _ (by omega)).trans ((hk _ (by omega) (by omega) (hV _ (by omega))).trans h3)
 · rw [List.length_append,List.map_append]
   exact hown.kept hset2 (.inr hV2')
 · rw [List.length_append]
   exact ((hm.alloc o).kept hg2 (fun e=>hV (b+2) (by omega) e.symm)).kept hset2 (by intro e;injection e;omega)
 · refine ⟨?_,?_,?_,?_,fun k hkk e1 e2 e3=>(hset k e1).trans (hk k hkk e2 e3),fun k e=>?_⟩
   · exact hg2.os.trans hg1.os
   · exact hg2.tape.trans hg1.tape
   · exact hg2.output.trans hg1.output
   · have:=hset2.size;omega
   · rcases hV2 k e with h|h
     · exact .inl h
     · exact .inr (by omega)
theorem info_txtV:(Tryz.prog.info? 9).map (fun i=>(i.zero,i.size,i.bytes))=some (some (.string ⟨#[]⟩),1,16):=by kernel_rfl
theorem info_partsV {t:TypeId} {z:Value} {s b:Nat} (h:(Tryz.prog.info? t).map (fun i=>(i.zero,i.size,i.bytes))=some (some z,s,b)):∃ i,Tryz.prog.info? t=some i∧i.zero=some z∧i.size=s∧i.bytes=b:=by
 cases hi:Tryz.prog.info? t with
 | none=>rw [hi] at h;cases h
 | some i=>rw [hi] at h;simp at h;exact ⟨i,rfl,h.1,h.2.1,h.2.2⟩
def VisC (v:VT):Prop:=∀ (c0 c1 c2 c3 c4:Value) (w:World) (B b:Nat) (V:Value) (out:List ByteArray),B≤b→VAt w B v c0 c1 c2 c3 c4→SeenAt b w V out→out.length+sizeV v≤20000 →
 Calls Tryz.prog 237 #[.agg #[c0,c1,c2,c3,c4],.pointer (some ⟨b+3,0,none⟩),.pointer (some ⟨b+1,0,none⟩),.pointer (some ⟨b+4,0,none⟩)] w fun e w'=>e=.returned (.tuple #[])∧∃ V',SeenAt b w' V' (varsV v out)∧Kept3 b w w' V V'
def selfV:VT→List ByteArray
 | .mk k _ s _ _=>if k=8 then [s] else []
theorem all_self (v:VT):allV v=selfV v++allL v.kids:=by
 have h:=all_kids v
 obtain ⟨k,n,s,l,m⟩:=v
 exact h
theorem self_len (v:VT):(selfV v).length≤1:=by
 obtain ⟨k,n,s,l,m⟩:=v
 rw [selfV]
 split<;>simp
def outAt (v:VT) (out:List ByteArray) (j:Nat):List ByteArray:=(allTo v.kids j).foldl addV ((selfV v).foldl addV out)
theorem outAt_all (v:VT) (out:List ByteArray):outAt v out v.kids.len=varsV v out:=by
 unfold outAt varsV
 rw [allTo_all,all_self v,List.foldl_append]
theorem outAt_next {v x:VT} {j:Nat} (h:v.kids.get j=some x) (out:List ByteArray):outAt v out (j+1)=varsV x (outAt v out j):=varsL_snoc h _
theorem outAt_room {v x:VT} {j:Nat} (h:v.kids.get j=some x) {out:List ByteArray} (hr:out.length+sizeV v≤20000):(outAt v out j).length+sizeV x≤20000:=by
 have h1:=allTo_room h
 have h2:=size_kids v
 have h3:=addsV_len (allTo v.kids j) ((selfV v).foldl addV out)
 have h4:=addsV_len (selfV v) out
 have h5:=self_len v
 unfold outAt
 omega
theorem outAt_zero_no {k n:Int} {s:ByteArray} {l:VL} {m:VM} {out:List ByteArray} (h : ¬ k=8∨hasV out s=true):outAt (.mk k n s l m) out 0=out:=by
 unfold outAt
 rw [allTo_zero]
 show (selfV (.mk k n s l m)).foldl addV out=out
 rw [selfV]
 rcases h with h|h
 · rw [if_neg h];rfl
 · split
   · show addV out s=out
     rw [addV,if_pos h]
   · rfl
theorem outAt_zero_yes {n:Int} {s:ByteArray} {l:VL} {m:VM} {out:List ByteArray} (h:hasV out s=false):outAt (.mk 8 n s l m) out 0=out++[s]:=by
 unfold outAt
 rw [allTo_zero]
 show (selfV (.mk 8 n s l m)).foldl addV out=out++[s]
 rw [selfV,if_pos rfl]
 show addV out s=out++[s]
 rw [addV,if_neg (by rw [h];decide)]
theorem box_five {w:World} {g:Nat} {c0 c1 c2 c3 c4:Value} {t:TypeId} (h:w.heap[g]? = some (.cells #[c0,c1,c2,c3,c4] t (0,0))):w.cell? ⟨g,0,none⟩=some c0∧w.cell? ⟨g,1,none⟩=some c1∧w.cell? ⟨g,2,none⟩=some c2∧w.cell? ⟨g,3,none⟩=some c3∧w.cell? ⟨g,4,none⟩=some c4:=by
 refine ⟨?_,?_,?_,?_,?_⟩<;>(simp only [World.cell?,h];rfl)
theorem txt_newV (w:World) (s:ByteArray) (t:TypeId) {g:Nat} (hg:g=w.heap.size):∀ (j:Nat) u,[Value.string s][j]? = some u→(w.alloc (.cells #[.string s] t)).cell? ((⟨g,0,none⟩:Addr).add j)=some u:=by
 subst hg
 intro j u hu
 rw [add_at,Nat.zero_add]
 match j,hu with
 | 0,hu=>cases hu;rw [World.cell?_alloc_at _ _ _ _ rfl];rfl
theorem own_orV {V:Value} {g H n c k h1:Nat} (e:(Value.slice (some ⟨g,0,none⟩) n c).ownBlock=some k) (h:V.ownBlock=some g∨g=H) (hH:h1≤H):V.ownBlock=some k∨h1≤k:=by
 have e':some g=some k:=e
 injection e' with e'
 subst e'
 rcases h with h|h
 · exact .inl h
 · exact .inr (by omega)
theorem vis_in {b B:Nat} {w wc:World} {V Vc:Value} {U:VT} {out out0:List ByteArray} {c0 c1 c2 c3 c4:Value} (HW:WithinX U) (hB:B≤b) (hv:VAt w B U c0 c1 c2 c3 c4) (hs:SeenAt b w V out) (hc:SeenAt b wc Vc out0∧Kept3 b w wc V Vc) :
  Calls Tryz.prog 201 #[.agg #[c0,c1,c2,c3,c4]] wc fun e w'=>∃ A c,e=.returned (.slice A U.kids.len c)∧SeenAt b w' Vc out0∧Kept3 b w w' V Vc∧RowN b w' Vc B U.kids A:=by
 obtain ⟨hc,hk⟩:=hc
 refine (HW _ _ _ _ _ wc B (by have:=hc.low;omega) (VAt.below (hk.below hs (by omega)) _ _ _ _ _ _ hv)).mono ?_
 rintro e w' ⟨A,c,rfl,hr,hb⟩
 exact ⟨A,c,rfl,hc.below hb,hk.trans (Kept3.of_below hb),hr.seen hc hB⟩
theorem vis_go {b B:Nat} {w:World} {V:Value} {x:VT} {out:List ByteArray} {d0 d1 d2 d3 d4:Value} {o:Obj} (hB:B≤b) (hC:VisC x) (hs:SeenAt b w V out) (hv:VAt w B x d0 d1 d2 d3 d4) (hr:out.length+sizeV x≤20000) :
  Calls Tryz.prog 237 #[.agg #[d0,d1,d2,d3,d4],.pointer (some ⟨b+3,0,none⟩),.pointer (some ⟨b+1,0,none⟩),.pointer (some ⟨b+4,0,none⟩)] (w.alloc o) fun e w'=>e=.returned (.tuple #[])∧∃ V',SeenAt b w' V' (varsV x out)∧Kept3 b w w' V V':=by
 have hb:=(Below.refl w.heap.size w).alloc (Nat.le_refl _) o
 have hl:=hs.low
 refine (hC _ _ _ _ _ (w.alloc o) B b V out hB (VAt.below (hb.mono (by omega)) _ _ _ _ _ _ hv) (hs.below hb) hr).mono ?_
 rintro e w' ⟨rfl,V',h1,h2⟩
 exact ⟨rfl,V',h1,(Kept3.of_below hb).trans h2⟩
theorem vis_step (N:Nat) (hN:N+1≤9000) (H:∀ u,sizeV u≤N→VisC u):∀ u,sizeV u≤N+1→VisC u:=by
 intro u hu c0 c1 c2 c3 c4 w B b V out hB hv hs hr
 have HS:=Hd H
 have hW:=within_x u (by omega)
 have hkg:=Hd (fun (x:VT) (j:Nat) (h:u.kids.get j=some x)=>kids_get_size h)
 have hnx:=Hd (fun (x:VT) (j:Nat) (h:u.kids.get j=some x)=>outAt_next h out)
 have hrm:=Hd (fun (x:VT) (j:Nat) (h:u.kids.get j=some x)=>outAt_room h hr)
 have hal:=Hd (outAt_all u out)
 have hv0:=Hd hv
 have HB0:=Hd hB
 have hks:=Hd (size_kids u)
 have hls:=Hd (len_size u.kids)
 have hol:out.length≤20000:=by omega
 obtain ⟨k,n,s,l,m⟩:=u
 have hno:=Hd (fun h=>outAt_zero_no (k:=k) (n:=n) (s:=s) (l:=l) (m:=m) (out:=out) h)
 have hyes:Hid (k=8→hasV out s=false→outAt (.mk k n s l m) out 0=out++[s]):=Hd (fun e h=>by subst e;exact outAt_zero_yes h)
 generalize hU:VT.mk k n s l m=U at *
 have hv':=hv
 rw [← hU] at hv'
 unfold VAt at hv'
 obtain ⟨rfl,rfl,rfl,hsl,⟨A,c,rfl,hl,hL⟩,A',c',rfl,hm,hM⟩:=hv'
 have HW:=Hd hW
 have HU:=Hd hu
 have hb0:=Hd (fun o=>(Below.refl w.heap.size w).alloc (Nat.le_refl _) o)
 have hS0:=Hd (fun o=>hs.below (hb0.out o))
 have hlow:=hs.low
 have hown:=Hd hs.own
 obtain ⟨x,hx⟩:∃ x,hasV out s=x:=⟨_,rfl⟩
 have lk:=fun o=>(hS0.out o).look s (by unfold maxLen;omega)
 rw [hx] at lk
 have d1:∀ o,(w.alloc o).cell? ⟨b+1,0,none⟩=some V:=fun o=>(one_cell (hS0.out o).1).1
 have d3:∀ o,(w.alloc o).cell? ⟨b+3,0,none⟩=some (.map (some (b+2))):=fun o=>(one_cell (hS0.out o).2.1).1
 have HS':=Hd hs
 obtain ⟨D,hmD,hD⟩:=hs.2.2.2.2
 have HD:=Hd hD
 have HMD:=Hd (fun o=>hmD.alloc o)
 have HMAX:out.length < maxLen:=by unfold maxLen;omega
 obtain ⟨i0,hi,hz0,hz1,hz2⟩:=info_partsV info_txtV
 clear H hB hv hW hL hM hu hU hs hr hD hmD
 have hkey:=WideMaps.keyOf_string_mk (P:=Tryz.prog) Tryz.underlying9 (s:=s) (by unfold maxLen;omega)
 obtain ⟨n8,h8⟩:∃ n,(k == 8)=n:=⟨_,rfl⟩
 cases n8
 have hout:=Hd (hno.out (.inl (by simpa using h8)))
 go_enter Tryz.func237,Tryz.ntmps237
 go_wp2_with fail
 refine (vis_in HW.out HB0.out hv0.out HS'.out ⟨hout.out.symm ▸ hS0.out _,Kept3.of_below (hb0.out _)⟩).mono ?_
 rotate_left
 cases x
 have hout:=Hd (hyes.out (by simpa using h8) hx)
 obtain rfl:k=8:=by simpa using h8
 clear h8
 go_enter Tryz.func237,Tryz.ntmps237
 go_wp2_with (first
  | (at_mapUpdate;refine wpList_mapUpdate_own _ rfl _ _ _ 123 rfl 9 4 (Maps.string_keyed Tryz.underlying9) Tryz.underlying123 _ (b+2) out.length D rfl (HMD.out _) HMAX _ _ _ rfl rfl hkey (.lit (.bool true)) [] (plainElem_bool Tryz.underlying4 true) ?_;intro w1 hm1 hg1;have x1:=(hg1.block w.heap.size (by simp) (fun e=>by injection e;omega)).trans (heap_alloc_new _ _);obtain ⟨p0,p1,p2,p3,p4⟩:=box_five x1;have y1:=(hg1.block (b+1) (by simp;omega) (fun e=>by injection e;omega)).trans (hS0.out _).1;obtain ⟨q1,q2⟩:=one_cell y1;have HM1:=Hd hm1;have HG1:=Hd hg1;have hs1:=hg1.size;have HR1:=Hd (fun o=>((hS0.out _).2.2.2.1.kept hg1 (.inr (fun e=>by have:=(hown.out _ e).1;omega))).alloc o);have HX1:=Hd x1;have HY1:=Hd y1;clear hm1 hg1 x1 y1)
  | (at_builtin;refine wpList_append_lies _ rfl _ _ 32 rfl (b+5) 9 i0 (.string ⟨#[]⟩) 1 16 Tryz.underlying32 hi hz0 hz1 hz2 rfl (by decide) V out.length (out.map .string) rfl (HR1.out _) _ 1 1 [.string s] rfl rfl (txt_newV _ _ _ rfl) (by intro u hu;simp at hu;subst hu;rfl) (by decide) (by unfold maxLen;omega) (by omega) (by simp at hs1;simp;omega) _ rfl ?_;intro g2 cap2 w2 hown2 hg2 hat2 hlt2;have x2:=(hg2.block w.heap.size (by simp at hs1;simp;omega) (fun e=>by have:=hown.out _ e.symm;omega)).trans ((Below.heap_alloc _ _ _ (by simp at hs1;omega)).trans HX1.out);obtain ⟨r0,r1,r2,r3,r4⟩:=box_five x2;have y2:=(hg2.block (b+1) (by simp at hs1;simp;omega) (fun e=>by have:=hown.out _ e.symm;omega)).trans ((Below.heap_alloc _ _ _ (by simp at hs1;omega)).trans HY1.out);obtain ⟨u1,u2⟩:=one_cell y2;have HM:=Hd ((hS0.out _).more HD.out HM1.out HG1.out hown2 hg2 (fun k e=>own_orV e hat2 (by simp)));clear x2 y2 hown2 hg2 hat2))
 refine (vis_in HW.out HB0.out hv0.out HS'.out ⟨hout.out.symm ▸ HM.out.1,(Kept3.of_below (hb0.out _)).trans HM.out.2⟩).mono ?_
 rotate_left
 have hout:=Hd (hno.out (.inr hx))
 obtain rfl:k=8:=by simpa using h8
 clear h8
 go_enter Tryz.func237,Tryz.ntmps237
 go_wp2_with fail
 refine (vis_in HW.out HB0.out hv0.out HS'.out ⟨hout.out.symm ▸ hS0.out _,Kept3.of_below (hb0.out _)⟩).mono ?_
 rotate_left
 all_goals
  rintro e w3 ⟨A1,c1',rfl,h1,h2,h3⟩
  have H3:=Hd (And.intro h1 (And.intro h2 h3))
  clear h1 h2 h3
  go_wp2_with fail
  go_loopg [28] U.kids.len (fun g i wx=>∃ q:Nat,q+g=U.kids.len∧i=.int .i64 q∧Aside (∃ Vx,SeenAt b wx Vx (outAt U out q)∧Kept3 b w wx V Vx∧RowN b wx Vx B U.kids A1))
  case atStart=>exact ⟨0,by omega,rfl,vaside ⟨_,H3.out.1,H3.out.2.1,H3.out.2.2⟩⟩
  case round =>
   obtain ⟨q,hq,rfl,HA⟩:=hrel
   obtain ⟨Vx,hsx,hkx,hrx⟩:=HA.out
   have HSX:=Hd hsx
   have HKX:=Hd hkx
   have HRX:=Hd hrx
   clear hsx hkx hrx H3 HA
   cases gk with
   | zero =>
     obtain rfl:q=U.kids.len:=by omega
     go_wp2_with fail
     go_end0
     exact ⟨rfl,Vx,by rw [← hal.out];exact HSX.out,HKX.out⟩
   | succ g =>
     have hqn:q < U.kids.len:=by omega
     have hq9:q < 9000:=by have h1:=hks.out;have h2:=hls.out;have h3:=HU.out;omega
     have hqn':(q:Int) < (U.kids.len:Int):=by omega
     obtain ⟨y,hy⟩:=VL.get_lt hqn
     have hys:=hkg.out y q hy
     have hnx':=Hd (hnx.out y q hy)
     obtain ⟨gb,o,d0,d1,d2,d3,d4,rfl,_,_,_,hblt,hF,hV⟩:=HRX.out q y hy
     have C:=Hd (fun o=>vis_go (o:=o) HB0.out (HS.out y (by have:=HU.out;omega)) HSX.out hV (hrm.out y q hy))
     have hpv:=fun o=>(one_cell ((HSX.out.below ((Below.refl _ _).alloc (Nat.le_refl _) o)).2.2.1)).1
     obtain ⟨yk,yn,ys,yl,ym⟩:=y
     have hV':=hV
     unfold VAt at hV'
     obtain ⟨rfl,rfl,rfl,_,⟨A3,c3',rfl,_,_⟩,A4,c4',rfl,_,_⟩:=hV'
     obtain ⟨f0,f1,f2,f3,f4⟩:=hF
     clear hV hy hys
     go_wp2_with fail
     refine (C.out _).mono ?_
     rintro e w4 ⟨rfl,V4,h1,h2⟩
     have H4:=Hd (And.intro h1 h2)
     clear h1 h2 C f0 f1 f2 f3 f4 hpv
     go_wp2_with fail
     go_roundg g
     case measure=>omega
     case rel=>exact ⟨q+1,by omega,by go_num,vaside ⟨V4,by rw [hnx'.out];exact H4.out.1,HKX.out.trans H4.out.2,HRX.out.kept HSX.out H4.out.2 HB0.out⟩⟩
theorem vis_all:∀ N,N≤9000→∀ u,sizeV u≤N→VisC u
 | 0,_,u,h=>by cases u;rw [sizeV] at h;omega
 | N+1,hN,u,h=>vis_step N hN (vis_all N (by omega)) u h
theorem vis_any (u:VT) (h:sizeV u≤9000):VisC u:=vis_all 9000 (Nat.le_refl _) u h
theorem seen_start (w:World) (box:Obj):SeenAt w.heap.size (((((w.alloc box).alloc (.cells #[.slice none 0 0] 32)).alloc (.map #[] 0)).alloc (.cells #[.map (some (w.heap.size+2))] 123)).alloc (.cells #[.func (.func 237) #[] #[.pointer (some ⟨w.heap.size+3,0,none⟩),.pointer (some ⟨w.heap.size+1,0,none⟩),.pointer (some ⟨w.heap.size+4,0,none⟩)]] 218)) (.slice none 0 0) []:=by
 have e0:(w.alloc box).heap.size=w.heap.size+1:=by simp
 have e1:((w.alloc box).alloc (.cells #[.slice none 0 0] 32)).heap.size=w.heap.size+2:=by simp
 have e2:(((w.alloc box).alloc (.cells #[.slice none 0 0] 32)).alloc (.map #[] 0)).heap.size=w.heap.size+3:=by simp
 have e3:((((w.alloc box).alloc (.cells #[.slice none 0 0] 32)).alloc (.map #[] 0)).alloc (.cells #[.map (some (w.heap.size+2))] 123)).heap.size=w.heap.size+4:=by simp
 refine ⟨?_,?_,?_,World.ownsRow_nil _ _ _ _,.map [],?_,SeenV.nil⟩
 · refine (Below.heap_alloc _ _ _ (by omega)).trans ((Below.heap_alloc _ _ _ (by omega)).trans ((Below.heap_alloc _ _ _ (by omega)).trans ?_))
   have:=heap_alloc_new (w.alloc box) (.cells #[.slice none 0 0] 32)
   rwa [e0] at this
 · refine (Below.heap_alloc _ _ _ (by omega)).trans ?_
   have:=heap_alloc_new (((w.alloc box).alloc (.cells #[.slice none 0 0] 32)).alloc (.map #[] 0)) (.cells #[.map (some (w.heap.size+2))] 123)
   rwa [e2] at this
 · have:=heap_alloc_new ((((w.alloc box).alloc (.cells #[.slice none 0 0] 32)).alloc (.map #[] 0)).alloc (.cells #[.map (some (w.heap.size+2))] 123)) (.cells #[.func (.func 237) #[] #[.pointer (some ⟨w.heap.size+3,0,none⟩),.pointer (some ⟨w.heap.size+1,0,none⟩),.pointer (some ⟨w.heap.size+4,0,none⟩)]] 218)
   rwa [e3] at this
 · have:=World.ownsMap_made ((w.alloc box).alloc (.cells #[.slice none 0 0] 32)) Tryz.prog 9 (plainElem (H:=Unit) Tryz.prog 4)
   rw [e1] at this
   exact (this.alloc _).alloc _
theorem own_mono {w:World} {B B':Nat} {e:TypeId} {k:Nat} {v:Value} {n:Nat} {xs:List Value} (h:w.ownsRow B e k v n xs) (hb:B'≤B):w.ownsRow B' e k v n xs:=by
 obtain ⟨h0,h1⟩:=h
 refine ⟨h0,?_⟩
 rcases h1 with h1|⟨g,cap,cur,a1,a2,a3⟩
 · exact .inl h1
 · exact .inr ⟨g,cap,cur,a1,Nat.le_trans hb a2,a3⟩
theorem start_below (w:World) (o1 o2 o3 o4 o5:Obj):Below w.heap.size w (((((w.alloc o1).alloc o2).alloc o3).alloc o4).alloc o5):=by
 have h1:=(Below.refl w.heap.size w).alloc (Nat.le_refl _) o1
 have h2:=h1.alloc h1.size o2
 have h3:=h2.alloc h2.size o3
 have h4:=h3.alloc h3.size o4
 exact h4.alloc h4.size o5
theorem vars_any (u:VT) (hz:sizeV u≤9000) (c0 c1 c2 c3 c4:Value) (w:World) (B:Nat) (hB:B≤w.heap.size) (hv:VAt w B u c0 c1 c2 c3 c4) :
  Calls Tryz.prog 223 #[.agg #[c0,c1,c2,c3,c4]] w fun e w'=>∃ V,e=.returned V∧w'.ownsRow w.heap.size 9 1 V (varsV u []).length ((varsV u []).map .string)∧Below w.heap.size w w':=by
 have HV:=Hd hv
 have C:=Hd (vis_any u hz)
 have hmf:∀ (fn:Fn) (first cap:Array Value) (w:World),(Instr.makeFunc fn first cap).run Tryz.prog w=.ok (.func fn first cap) w:=fun _ _ _ _=>rfl
 have hmm:=@run_makeMap Tryz.prog
 obtain ⟨k,n,s,l,m⟩:=u
 generalize hU:VT.mk k n s l m=U at *
 rw [← hU] at hv
 unfold VAt at hv
 obtain ⟨rfl,rfl,rfl,hsl,⟨A,c,rfl,hl,hL⟩,A',c',rfl,hm,hM⟩:=hv
 have hz0:=Hd hz
 clear hL hM hU hz
 go_enter Tryz.func223,Tryz.ntmps223
 go_wp2_with fail
 refine (C.out _ _ _ _ _ _ B w.heap.size (.slice none 0 0) [] hB (VAt.below ((start_below w _ _ _ _ _).mono hB) _ _ _ _ _ _ HV.out) (seen_start w _) (by simp;have:=hz0.out;omega)).mono ?_
 rintro e w1 ⟨rfl,V,h1,h2⟩
 have hb:=Hd ((start_below w _ _ _ _ _).trans (h2.below (seen_start w _) (Nat.le_succ _)))
 obtain ⟨y0,y1⟩:=one_cell h1.1
 have H1:=Hd h1
 clear h1 h2
 go_wp2_with fail
 go_ret
 exact ⟨V,rfl,own_mono H1.out.2.2.2.1 (by omega),hb.out⟩
end Go.Proofs.YtaekdfcpbepepaaGreatDoor
