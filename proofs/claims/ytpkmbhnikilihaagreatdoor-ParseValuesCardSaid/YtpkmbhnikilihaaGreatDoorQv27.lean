/- The landed document: what lies in memory while it is read. -/
import Derived.Test.YtpkmbhnikilihaaGreatDoorQv26
namespace Go.Proofs.YtpkmbhnikilihaaGreatDoor
open Go.RowKit
structure RX (ty:TypeId) (n base:Nat) (W:World) (V:Value) (l:TrL) (xs:List Value) (P X:Nat→Prop):Prop where
 own:W.ownsRow base ty n V l.len xs
 val:TLV W P l xs
 bd:∀ b,P b→base≤b∧b < W.heap.size∧V.ownBlock ≠ some b
 inX:∀ b,(P b∨V.ownBlock=some b)→X b
theorem RX.next {ty:TypeId} {n base r:Nat} {W W':World} {V:Value} {l:TrL} {xs:List Value} {P X:Nat→Prop} (h:RX ty n base W V l xs P X) (m:Moved r W W') (hr:r < base):RX ty n base W' V l xs P X:=
 ⟨own_moved h.own m hr,h.val.keep (fun b hb=>⟨hb,m.block b (h.bd b hb).2.1 (fun e=>by have:=(h.bd b hb).1;injection e;omega)⟩),fun b hb=>⟨(h.bd b hb).1,Nat.lt_of_lt_of_le (h.bd b hb).2.1 m.size,(h.bd b hb).2.2⟩,h.inX⟩
theorem RX.other {ty:TypeId} {n base:Nat} {W W':World} {V:Value} {l:TrL} {xs:List Value} {P X:Nat→Prop} {k:Option Nat} (h:RX ty n base W V l xs P X) (hg:W.grownBy W' k) (hk:∀ b,k=some b→¬ X b):RX ty n base W' V l xs P X:=by
 refine ⟨World.ownsRow.kept h.own hg ?_,h.val.keep (fun b hb=>⟨hb,hg.block b (h.bd b hb).2.1 (fun e=>hk b e.symm (h.inX b (.inl hb)))⟩),fun b hb=>⟨(h.bd b hb).1,Nat.lt_of_lt_of_le (h.bd b hb).2.1 hg.size,(h.bd b hb).2.2⟩,h.inX⟩
 cases e:V.ownBlock with
 | none=>exact .inl rfl
 | some b=>exact .inr (fun e'=>hk b e'.symm (h.inX b (.inr e)))
theorem RX.start (ty:TypeId) (n base:Nat) (W:World):RX ty n base W (.slice none 0 0) .nil [] (fun _=>False) (fun _=>False):=
 ⟨World.ownsRow_nil _ _ _ _,rfl,fun _ h=>h.elim,fun _ h=>by rcases h with h|h;exact h;cases h⟩
theorem RX.app {ty:TypeId} {n base r cap g:Nat} {w2 w3 w4:World} {V:Value} {l:TrL} {s:TrS} {o:Obj} {xs cs:List Value} {P X:Nat→Prop} (h:RX ty n base w2 V l xs P X) (hbase:base≤w2.heap.size) (m:Moved r w2 w3) (hr:r < base)
   (hd:TS w3 (fun b=>w2.heap.size≤b∧b < w3.heap.size) s cs) (hown4:w4.ownsRow base ty n (.slice (some ⟨g,0,none⟩) (l.len+1) cap) (l.len+1) (xs++cs)) (hg:(w3.alloc o).grownBy w4 V.ownBlock) (hat:V.ownBlock=some g∨g=(w3.alloc o).heap.size) :
   ∃ P',RX ty n base w4 (.slice (some ⟨g,0,none⟩) (l.len+1) cap) (l.snoc s) (xs++cs) P' (fun b=>X b∨(w2.heap.size≤b∧b < w4.heap.size)):=by
 have hs:=m.size
 have hV:∀ k,V.ownBlock=some k→k < w2.heap.size:=fun k hk=>(h.own.lt k hk).2
 obtain ⟨h1,_,h3⟩:=step_blocks (wr:=w3) (w2:=w3) (w4:=w4) (V:=V) (g:=g) (o:=o) (P:=fun b=>P b∨(w2.heap.size≤b∧b < w3.heap.size)) (base:=base) (Nat.le_trans hbase hs) (fun k hk=>Nat.lt_of_lt_of_le (hV k hk) hs) (fun b hb=>by
   rcases hb with hb|hb
   · exact ⟨(h.bd b hb).1,Nat.lt_of_lt_of_le (h.bd b hb).2.1 hs,(h.bd b hb).2.2⟩
   · exact ⟨Nat.le_trans hbase hb.1,hb.2,fun e=>by have:=hV b e;omega⟩) (Below.refl _ _) hg hat
 have ha:(w3.alloc o).heap.size=w3.heap.size+1:=by simp
 have hs4:=hg.size
 refine ⟨_,by rw [TrL.snoc_len];exact hown4,TLV.snoc (TS.keep (fun b hb=>h1 b (.inr hb)) _ _ hd) ((h.val.keep (P':=fun b=>P b∨(w2.heap.size≤b∧b < w3.heap.size)) (fun b hb=>⟨.inl hb,m.block b (h.bd b hb).2.1 (fun e=>by have:=(h.bd b hb).1;injection e;omega)⟩)).keep h1),h3,fun b hb=>?_⟩
 rcases hb with hb|hb
 · have h5:=h3 b hb
   rcases hb with (hPb|hPb)|hPb
   · exact .inl (h.inX b (.inl hPb))
   · exact .inr ⟨hPb.1,h5.2.1⟩
   · have h6:=hPb.1;have h7:=hPb.2;omega
 · have hgb:g=b:=by
     have:(Value.slice (some ⟨g,0,none⟩) (l.len+1) cap).ownBlock=some g:=rfl
     rw [this] at hb;exact Option.some.inj hb
   subst hgb
   rcases hat with hat|hat
   · exact .inl (h.inX g (.inr hat))
   · exact .inr ⟨by omega,(hown4.lt g rfl).2⟩
abbrev zDoc:Obj:=.cells #[.slice none 0 0,.slice none 0 0] 26
abbrev docO (V1 V2:Value):Obj:=.cells #[V1,V2] 26
structure DK (w:World) (r:Nat) (W:World) (V1 V2:Value) (D:DocT) (xs1 xs2:List Value) (P1 X1 P2 X2:Nat→Prop):Prop where
 res:W.heap[w.heap.size]? = some zDoc
 loc:W.heap[w.heap.size+1]? = some (docO V1 V2)
 r1:RX 68 5 (w.heap.size+2) W V1 (rowOf encOp D.ops) xs1 P1 X1
 r2:RX 87 4 (w.heap.size+2) W V2 (rowOf encF D.frags) xs2 P2 X2
 dis:∀ b,X1 b→X2 b→False
 b1:∀ b,X1 b→w.heap.size+2≤b∧b < W.heap.size
 b2:∀ b,X2 b→w.heap.size+2≤b∧b < W.heap.size
 mv:Moved r w W
 hr:r < w.heap.size
 lt:w.heap.size+2≤W.heap.size
theorem DK.start (w:World) (r:Nat) (hr:r < w.heap.size):DK w r ((w.alloc zDoc).alloc (docO (.slice none 0 0) (.slice none 0 0))) (.slice none 0 0) (.slice none 0 0) ⟨[],[]⟩ [] [] (fun _=>False) (fun _=>False) (fun _=>False) (fun _=>False):=
 ⟨(Below.heap_alloc _ _ _ (by simp)).trans (heap_alloc_new _ _),heap_alloc2_new _ _ _,RX.start _ _ _ _,RX.start _ _ _ _,fun _ h=>h.elim,fun _ h=>h.elim,fun _ h=>h.elim,(Moved.of_below (blw _ _)).trans (Moved.of_below (blw _ _)),hr,by simp⟩
theorem DK.next {w:World} {r:Nat} {W W':World} {V1 V2:Value} {D:DocT} {xs1 xs2:List Value} {P1 X1 P2 X2:Nat→Prop} (h:DK w r W V1 V2 D xs1 xs2 P1 X1 P2 X2) (m:Moved r W W'):DK w r W' V1 V2 D xs1 xs2 P1 X1 P2 X2:=
 ⟨m.keep h.res (by have:=h.hr;omega),m.keep h.loc (by have:=h.hr;omega),h.r1.next m (by have:=h.hr;omega),h.r2.next m (by have:=h.hr;omega),h.dis,fun b hb=>⟨(h.b1 b hb).1,Nat.lt_of_lt_of_le (h.b1 b hb).2 m.size⟩,fun b hb=>⟨(h.b2 b hb).1,Nat.lt_of_lt_of_le (h.b2 b hb).2 m.size⟩,h.mv.trans m,h.hr,Nat.le_trans h.lt m.size⟩
theorem DK.grown {w:World} {r:Nat} {w3 w4:World} {V1 V2:Value} {D:DocT} {xs1 xs2:List Value} {P1 X1 P2 X2:Nat→Prop} {o:Obj} {k:Option Nat} (h:DK w r w3 V1 V2 D xs1 xs2 P1 X1 P2 X2) (hg:(w3.alloc o).grownBy w4 k) (hk:∀ b,k=some b→w.heap.size+2≤b) :
   w4.heap[w.heap.size]? = some zDoc∧w4.heap[w.heap.size+1]? = some (docO V1 V2)∧Moved r w w4∧w.heap.size+2≤w4.heap.size:=by
 have hlt:=h.lt
 have ha:(w3.alloc o).heap.size=w3.heap.size+1:=by simp
 have hs:=hg.size
 refine ⟨?_,?_,?_,by omega⟩
 · rw [hg.block _ (by omega) (fun e=>by have:=hk _ e.symm;omega),Below.heap_alloc _ _ _ (by omega)];exact h.res
 · rw [hg.block _ (by omega) (fun e=>by have:=hk _ e.symm;omega),Below.heap_alloc _ _ _ (by omega)];exact h.loc
 · have m:=h.mv.trans (Moved.of_below (blw w3 o))
   exact ⟨hg.os.trans m.os,hg.tape.trans m.tape,hg.output.trans m.output,Nat.le_trans m.size hg.size,fun j hj hn=>(hg.block j (Nat.lt_of_lt_of_le hj m.size) (fun e=>by have:=hk _ e.symm;omega)).trans (m.block j hj hn)⟩
theorem DK.own1 {w:World} {r:Nat} {W:World} {V1 V2:Value} {D:DocT} {xs1 xs2:List Value} {P1 X1 P2 X2:Nat→Prop} (h:DK w r W V1 V2 D xs1 xs2 P1 X1 P2 X2):∀ b,V1.ownBlock=some b→w.heap.size+2≤b:=fun b hb=>(h.b1 b (h.r1.inX b (.inr hb))).1
theorem DK.own2 {w:World} {r:Nat} {W:World} {V1 V2:Value} {D:DocT} {xs1 xs2:List Value} {P1 X1 P2 X2:Nat→Prop} (h:DK w r W V1 V2 D xs1 xs2 P1 X1 P2 X2):∀ b,V2.ownBlock=some b→w.heap.size+2≤b:=fun b hb=>(h.b2 b (h.r2.inX b (.inr hb))).1
theorem DK.app1 {w:World} {r g cap:Nat} {w2 w3 w4:World} {V1 V2:Value} {D:DocT} {xs1 xs2:List Value} {P1 X1 P2 X2:Nat→Prop} {o:Obj} {x:OpT} {cs:List Value} (h:DK w r w2 V1 V2 D xs1 xs2 P1 X1 P2 X2) (m:Moved r w2 w3) (hd:TS w3 (Fresh w2 w3) (encOp x) cs)
   (hown4:w4.ownsRow (w.heap.size+2) 68 5 (.slice (some ⟨g,0,none⟩) ((rowOf encOp D.ops).len+1) cap) ((rowOf encOp D.ops).len+1) (xs1++cs)) (hg:(w3.alloc o).grownBy w4 V1.ownBlock) (hat:V1.ownBlock=some g∨g=(w3.alloc o).heap.size) :
   ∃ P',DK w r (w4.setCell ⟨w.heap.size+1,0,none⟩ (.slice (some ⟨g,0,none⟩) ((rowOf encOp D.ops).len+1) cap)) (.slice (some ⟨g,0,none⟩) ((rowOf encOp D.ops).len+1) cap) V2 ⟨D.ops++[x],D.frags⟩ (xs1++cs) xs2 P' (fun b=>X1 b∨(w2.heap.size≤b∧b < w4.heap.size)) P2 X2:=by
 have h3:=h.next m
 have hr:=h.hr
 obtain ⟨P',hR⟩:=h.r1.app h.lt m (by omega) hd hown4 hg hat
 obtain ⟨q0,q1,q2,q3⟩:=h3.grown hg h3.own1
 have hsz:∀ v,(w4.setCell ⟨w.heap.size+1,0,none⟩ v).heap.size=w4.heap.size:=fun v=>by simp [World.setCell]
 have hs:=m.size
 have ha:(w3.alloc o).heap.size=w3.heap.size+1:=by simp
 have hs4:=hg.size
 have hR2:=(h3.r2.other (World.grownBy_alloc w3 o none) (fun _ e=>by cases e)).other hg (fun b e hx=>h.dis b (h.r1.inX b (.inr e)) hx)
 refine ⟨P',set_other' q0 (by omega),heap_setCell_same _ _ 0 _ _ _ q1,?_,hR2.next (Moved.set (r:=w.heap.size+1)) (by omega),?_,fun b hb=>?_,fun b hb=>?_,q2.put (by omega),hr,by rw [hsz];exact q3⟩
 · rw [show rowOf encOp (D.ops++[x])=(rowOf encOp D.ops).snoc (encOp x) from rowOf_snoc _ _ _]
   exact hR.next (Moved.set (r:=w.heap.size+1)) (by omega)
 · intro b hb hx
   rcases hb with hb|hb
   · exact h.dis b hb hx
   · have:=(h.b2 b hx).2;omega
 · rw [hsz]
   rcases hb with hb|hb
   · have:=h.b1 b hb;omega
   · have:=h.lt;omega
 · rw [hsz];have:=h.b2 b hb;omega
theorem DK.app2 {w:World} {r g cap:Nat} {w2 w3 w4:World} {V1 V2:Value} {D:DocT} {xs1 xs2:List Value} {P1 X1 P2 X2:Nat→Prop} {o:Obj} {x:FragT} {cs:List Value} (h:DK w r w2 V1 V2 D xs1 xs2 P1 X1 P2 X2) (m:Moved r w2 w3) (hd:TS w3 (Fresh w2 w3) (encF x) cs)
   (hown4:w4.ownsRow (w.heap.size+2) 87 4 (.slice (some ⟨g,0,none⟩) ((rowOf encF D.frags).len+1) cap) ((rowOf encF D.frags).len+1) (xs2++cs)) (hg:(w3.alloc o).grownBy w4 V2.ownBlock) (hat:V2.ownBlock=some g∨g=(w3.alloc o).heap.size) :
   ∃ P',DK w r (w4.setCell ⟨w.heap.size+1,1,none⟩ (.slice (some ⟨g,0,none⟩) ((rowOf encF D.frags).len+1) cap)) V1 (.slice (some ⟨g,0,none⟩) ((rowOf encF D.frags).len+1) cap) ⟨D.ops,D.frags++[x]⟩ xs1 (xs2++cs) P1 X1 P' (fun b=>X2 b∨(w2.heap.size≤b∧b < w4.heap.size)):=by
 have h3:=h.next m
 have hr:=h.hr
 obtain ⟨P',hR⟩:=h.r2.app h.lt m (by omega) hd hown4 hg hat
 obtain ⟨q0,q1,q2,q3⟩:=h3.grown hg h3.own2
 have hsz:∀ v,(w4.setCell ⟨w.heap.size+1,1,none⟩ v).heap.size=w4.heap.size:=fun v=>by simp [World.setCell]
 have hs:=m.size
 have ha:(w3.alloc o).heap.size=w3.heap.size+1:=by simp
 have hs4:=hg.size
 have hR1:=(h3.r1.other (World.grownBy_alloc w3 o none) (fun _ e=>by cases e)).other hg (fun b e hx=>h.dis b hx (h.r2.inX b (.inr e)))
 refine ⟨P',set_other' q0 (by omega),heap_setCell_same _ _ 1 _ _ _ q1,hR1.next (Moved.set (r:=w.heap.size+1)) (by omega),?_,?_,fun b hb=>?_,fun b hb=>?_,q2.put (by omega),hr,by rw [hsz];exact q3⟩
 · rw [show rowOf encF (D.frags++[x])=(rowOf encF D.frags).snoc (encF x) from rowOf_snoc _ _ _]
   exact hR.next (Moved.set (r:=w.heap.size+1)) (by omega)
 · intro b hx hb
   rcases hb with hb|hb
   · exact h.dis b hx hb
   · have:=(h.b1 b hx).2;omega
 · rw [hsz];have:=h.b1 b hb;omega
 · rw [hsz]
   rcases hb with hb|hb
   · have:=h.b2 b hb;omega
   · have:=h.lt;omega
def encDoc (D:DocT):TrS:=.cons (.row (rowOf encOp D.ops)) (.cons (.row (rowOf encF D.frags)) .nil)
theorem DK.tree {w:World} {r:Nat} {W:World} {V1 V2:Value} {D:DocT} {xs1 xs2:List Value} {P1 X1 P2 X2:Nat→Prop} (h:DK w r W V1 V2 D xs1 xs2 P1 X1 P2 X2) (h1:D.ops.length≤9223372036854775807) (h2:D.frags.length≤9223372036854775807):OvS (w.heap.size+1) W (encDoc D) [V1,V2]:=by
 have f1:=(show RTr _ _ _ _ _ _ from ⟨xs1,P1,h.r1.own,h.r1.val,h.r1.bd⟩:RTr 68 5 (w.heap.size+2) W V1 (rowOf encOp D.ops)).fin (by rw [rowOf_len];exact h1)
 have f2:=(show RTr _ _ _ _ _ _ from ⟨xs2,P2,h.r2.own,h.r2.val,h.r2.bd⟩:RTr 87 4 (w.heap.size+2) W V2 (rowOf encF D.frags)).fin (by rw [rowOf_len];exact h2)
 unfold encDoc OvS
 exact TS.row (TP.keep (fun b hb=>⟨⟨by have:=hb.1;omega,hb.2⟩,rfl⟩) _ _ f1) (TS.row (TP.keep (fun b hb=>⟨⟨by have:=hb.1;omega,hb.2⟩,rfl⟩) _ _ f2) (TS.nil _ _))
end Go.Proofs.YtpkmbhnikilihaaGreatDoor
