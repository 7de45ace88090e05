/- The landed document: what lies in memory while it is read. -/
import Derived.Test.YtkacnnhdfkpenaaGreatDoorSj36
import Derived.Test.YtkacnnhdfkpenaaGreatDoorSj37
namespace Go.Proofs.YtkacnnhdfkpenaaGreatDoor
open Go.RowKit
structure RX (ty:TypeId) (n base:Nat) (W:World) (V:Value) (l:TrL) (xs:List Value) (P X:Nat→Prop):Prop where
 own:W.ownsRow base ty n V l.len xs
 val:TLV W P l xs
 bd:∀ b,P b→base≤b∧b < W.heap.size∧V.ownBlock ≠ some b
 inX:∀ b,(P b∨V.ownBlock=some b)→X b
theorem RX.next {ty:TypeId} {n base r:Nat} {W W':World} {V:Value} {l:TrL} {xs:List Value} {P X:Nat→Prop} (h:RX ty n base W V l xs P X) (m:Moved r W W') (hr:r < base):RX ty n base W' V l xs P X:=
 ⟨own_moved h.own m hr,h.val.keep (fun b hb=>⟨hb,m.block b (h.bd b hb).2.1 (fun e=>by have:=(h.bd b hb).1;injection e;omega)⟩),fun b hb=>⟨(h.bd b hb).1,Nat.lt_of_lt_of_le (h.bd b hb).2.1 m.size,(h.bd b hb).2.2⟩,h.inX⟩
theorem RX.start (ty:TypeId) (n base:Nat) (W:World):RX ty n base W (.slice none 0 0) .nil [] (fun _=>False) (fun _=>False):=
 ⟨World.ownsRow_nil _ _ _ _,rfl,fun _ h=>h.elim,fun _ h=>by rcases h with h|h;exact h;cases h⟩
theorem RX.app {ty:TypeId} {n base r cap g:Nat} {w2 w3 w4:World} {V:Value} {l:TrL} {s:TrS} {o:Obj} {xs cs:List Value} {P X:Nat→Prop} (h:RX ty n base w2 V l xs P X) (hbase:base≤w2.heap.size) (m:Moved r w2 w3) (hr:r < base)
   (hd:TS w3 (fun b=>w2.heap.size≤b∧b < w3.heap.size) s cs) (hown4:w4.ownsRow base ty n (.slice (some ⟨g,0,none⟩) (l.len+1) cap) (l.len+1) (xs++cs)) (hg:(w3.alloc o).grownBy w4 V.ownBlock) (hat:V.ownBlock=some g∨g=(w3.alloc o).heap.size) :
   ∃ P',RX ty n base w4 (.slice (some ⟨g,0,none⟩) (l.len+1) cap) (l.snoc s) (xs++cs) P' (fun b=>X b∨(w2.heap.size≤b∧b < w4.heap.size)):=by
 have hs:=m.size
 have hV:∀ k,V.ownBlock=some k→k < w2.heap.size:=fun k hk=>(h.own.lt k hk).2
 obtain ⟨h1,_,h3⟩:=step_blocks (wr:=w3) (w2:=w3) (w4:=w4) (V:=V) (g:=g) (o:=o) (P:=fun b=>P b∨(w2.heap.size≤b∧b < w3.heap.size)) (base:=base) (Nat.le_trans hbase hs) (fun k hk=>Nat.lt_of_lt_of_le (hV k hk) hs) (fun b hb=>by
   rcases hb with hb|hb
   · exact ⟨(h.bd b hb).1,Nat.lt_of_lt_of_le (h.bd b hb).2.1 hs,(h.bd b hb).2.2⟩
   · exact ⟨Nat.le_trans hbase hb.1,hb.2,fun e=>by have:=hV b e;omega⟩) (Below.refl _ _) hg hat
 have ha:(w3.alloc o).heap.size=w3.heap.size+1:=by simp
 have hs4:=hg.size
 refine ⟨_,by rw [TrL.snoc_len];exact hown4,TLV.snoc (TS.keep (fun b hb=>h1 b (.inr hb)) _ _ hd) ((h.val.keep (P':=fun b=>P b∨(w2.heap.size≤b∧b < w3.heap.size)) (fun b hb=>⟨.inl hb,m.block b (h.bd b hb).2.1 (fun e=>by have:=(h.bd b hb).1;injection e;omega)⟩)).keep h1),h3,fun b hb=>?_⟩
 rcases hb with hb|hb
 · have h5:=h3 b hb
   rcases hb with (hPb|hPb)|hPb
   · exact .inl (h.inX b (.inl hPb))
   · exact .inr ⟨hPb.1,h5.2.1⟩
   · have h6:=hPb.1;have h7:=hPb.2;omega
 · have hgb:g=b:=by
     have:(Value.slice (some ⟨g,0,none⟩) (l.len+1) cap).ownBlock=some g:=rfl
     rw [this] at hb;exact Option.some.inj hb
   subst hgb
   rcases hat with hat|hat
   · exact .inl (h.inX g (.inr hat))
   · exact .inr ⟨by omega,(hown4.lt g rfl).2⟩
abbrev zDoc:Obj:=.cells #[.slice none 0 0,.slice none 0 0] 25
abbrev docO (V1 V2:Value):Obj:=.cells #[V1,V2] 25
structure DK (w:World) (r:Nat) (W:World) (V1 V2:Value) (D:DocT) (xs1 xs2:List Value) (P1 X1 P2 X2:Nat→Prop):Prop where
 res:W.heap[w.heap.size]? = some zDoc
 loc:W.heap[w.heap.size+1]? = some (docO V1 V2)
 r1:RX 50 5 (w.heap.size+2) W V1 (rowOf encOp D.ops) xs1 P1 X1
 r2:RX 82 4 (w.heap.size+2) W V2 (rowOf encF D.frags) xs2 P2 X2
 dis:∀ b,X1 b→X2 b→False
 b1:∀ b,X1 b→w.heap.size+2≤b∧b < W.heap.size
 b2:∀ b,X2 b→w.heap.size+2≤b∧b < W.heap.size
 mv:Moved r w W
 hr:r < w.heap.size
 lt:w.heap.size+2≤W.heap.size
theorem DK.next {w:World} {r:Nat} {W W':World} {V1 V2:Value} {D:DocT} {xs1 xs2:List Value} {P1 X1 P2 X2:Nat→Prop} (h:DK w r W V1 V2 D xs1 xs2 P1 X1 P2 X2) (m:Moved r W W'):DK w r W' V1 V2 D xs1 xs2 P1 X1 P2 X2:=
 ⟨m.keep h.res (by have:=h.hr;omega),m.keep h.loc (by have:=h.hr;omega),h.r1.next m (by have:=h.hr;omega),h.r2.next m (by have:=h.hr;omega),h.dis,fun b hb=>⟨(h.b1 b hb).1,Nat.lt_of_lt_of_le (h.b1 b hb).2 m.size⟩,fun b hb=>⟨(h.b2 b hb).1,Nat.lt_of_lt_of_le (h.b2 b hb).2 m.size⟩,h.mv.trans m,h.hr,Nat.le_trans h.lt m.size⟩
theorem DK.grown {w:World} {r:Nat} {w3 w4:World} {V1 V2:Value} {D:DocT} {xs1 xs2:List Value} {P1 X1 P2 X2:Nat→Prop} {o:Obj} {k:Option Nat} (h:DK w r w3 V1 V2 D xs1 xs2 P1 X1 P2 X2) (hg:(w3.alloc o).grownBy w4 k) (hk:∀ b,k=some b→w.heap.size+2≤b) :
   w4.heap[w.heap.size]? = some zDoc∧w4.heap[w.heap.size+1]? = some (docO V1 V2)∧Moved r w w4∧w.heap.size+2≤w4.heap.size:=by
 have hlt:=h.lt
 have ha:(w3.alloc o).heap.size=w3.heap.size+1:=by simp
 have hs:=hg.size
 refine ⟨?_,?_,?_,by omega⟩
 · rw [hg.block _ (by omega) (fun e=>by have:=hk _ e.symm;omega),Below.heap_alloc _ _ _ (by omega)];exact h.res
 · rw [hg.block _ (by omega) (fun e=>by have:=hk _ e.symm;omega),Below.heap_alloc _ _ _ (by omega)];exact h.loc
 · have m:=h.mv.trans (Moved.of_below (blw w3 o))
   exact ⟨hg.os.trans m.os,hg.tape.trans m.tape,hg.output.trans m.output,Nat.le_trans m.size hg.size,fun j hj hn=>(hg.block j (Nat.lt_of_lt_of_le hj m.size) (fun e=>by have:=hk _ e.symm;omega)).trans (m.block j hj hn)⟩
abbrev zSch:Obj:=.cells #[.slice none 0 0,.string ⟨#[]⟩,.string ⟨#[]⟩] 55
abbrev schO (V:Value) (q m:ByteArray):Obj:=.cells #[V,.string q,.string m] 55
structure SK (w:World) (r:Nat) (W:World) (V:Value) (D:SchT) (xs:List Value) (P X:Nat→Prop):Prop where
 res:W.heap[w.heap.size]? = some zSch
 loc:W.heap[w.heap.size+1]? = some (schO V D.query D.mutation)
 r1:RX 68 6 (w.heap.size+2) W V (rowOf encDefn D.defs) xs P X
 b1:∀ b,X b→w.heap.size+2≤b∧b < W.heap.size
 mv:Moved r w W
 hr:r < w.heap.size
 lt:w.heap.size+2≤W.heap.size
 qs:D.query.size≤9000
 ms:D.mutation.size≤9000
theorem SK.start (w:World) (r:Nat) (hr:r < w.heap.size):SK w r ((w.alloc zSch).alloc (schO (.slice none 0 0) eB eB)) (.slice none 0 0) ⟨[],eB,eB⟩ [] (fun _=>False) (fun _=>False):=
 ⟨(Below.heap_alloc _ _ _ (by simp)).trans (heap_alloc_new _ _),heap_alloc2_new _ _ _,RX.start _ _ _ _,fun _ h=>h.elim,(Moved.of_below (blw _ _)).trans (Moved.of_below (blw _ _)),hr,by simp,Nat.zero_le _,Nat.zero_le _⟩
theorem SK.next {w:World} {r:Nat} {W W':World} {V:Value} {D:SchT} {xs:List Value} {P X:Nat→Prop} (h:SK w r W V D xs P X) (m:Moved r W W'):SK w r W' V D xs P X:=
 ⟨m.keep h.res (by have:=h.hr;omega),m.keep h.loc (by have:=h.hr;omega),h.r1.next m (by have:=h.hr;omega),fun b hb=>⟨(h.b1 b hb).1,Nat.lt_of_lt_of_le (h.b1 b hb).2 m.size⟩,h.mv.trans m,h.hr,Nat.le_trans h.lt m.size,h.qs,h.ms⟩
theorem SK.own {w:World} {r:Nat} {W:World} {V:Value} {D:SchT} {xs:List Value} {P X:Nat→Prop} (h:SK w r W V D xs P X):∀ b,V.ownBlock=some b→w.heap.size+2≤b:=fun b hb=>(h.b1 b (h.r1.inX b (.inr hb))).1
theorem SK.grown {w:World} {r:Nat} {w3 w4:World} {V:Value} {D:SchT} {xs:List Value} {P X:Nat→Prop} {o:Obj} {k:Option Nat} (h:SK w r w3 V D xs P X) (hg:(w3.alloc o).grownBy w4 k) (hk:∀ b,k=some b→w.heap.size+2≤b) :
   w4.heap[w.heap.size]? = some zSch∧w4.heap[w.heap.size+1]? = some (schO V D.query D.mutation)∧Moved r w w4∧w.heap.size+2≤w4.heap.size:=by
 have hlt:=h.lt
 have ha:(w3.alloc o).heap.size=w3.heap.size+1:=by simp
 have hs:=hg.size
 refine ⟨?_,?_,?_,by omega⟩
 · rw [hg.block _ (by omega) (fun e=>by have:=hk _ e.symm;omega),Below.heap_alloc _ _ _ (by omega)];exact h.res
 · rw [hg.block _ (by omega) (fun e=>by have:=hk _ e.symm;omega),Below.heap_alloc _ _ _ (by omega)];exact h.loc
 · have m:=h.mv.trans (Moved.of_below (blw w3 o))
   exact ⟨hg.os.trans m.os,hg.tape.trans m.tape,hg.output.trans m.output,Nat.le_trans m.size hg.size,fun j hj hn=>(hg.block j (Nat.lt_of_lt_of_le hj m.size) (fun e=>by have:=hk _ e.symm;omega)).trans (m.block j hj hn)⟩
theorem SK.app {w:World} {r g cap:Nat} {w2 w3 w4:World} {V:Value} {D:SchT} {xs:List Value} {P X:Nat→Prop} {o:Obj} {x:DefnT} {cs:List Value} (h:SK w r w2 V D xs P X) (m:Moved r w2 w3) (hd:TS w3 (Fresh w2 w3) (encDefn x) cs)
   (hown4:w4.ownsRow (w.heap.size+2) 68 6 (.slice (some ⟨g,0,none⟩) ((rowOf encDefn D.defs).len+1) cap) ((rowOf encDefn D.defs).len+1) (xs++cs)) (hg:(w3.alloc o).grownBy w4 V.ownBlock) (hat:V.ownBlock=some g∨g=(w3.alloc o).heap.size) :
   ∃ P',SK w r (w4.setCell ⟨w.heap.size+1,0,none⟩ (.slice (some ⟨g,0,none⟩) ((rowOf encDefn D.defs).len+1) cap)) (.slice (some ⟨g,0,none⟩) ((rowOf encDefn D.defs).len+1) cap) ⟨D.defs++[x],D.query,D.mutation⟩ (xs++cs) P' (fun b=>X b∨(w2.heap.size≤b∧b < w4.heap.size)):=by
 have h3:=h.next m
 have hr:=h.hr
 obtain ⟨P',hR⟩:=h.r1.app h.lt m (by omega) hd hown4 hg hat
 obtain ⟨q0,q1,q2,q3⟩:=h3.grown hg h3.own
 have hsz:∀ v,(w4.setCell ⟨w.heap.size+1,0,none⟩ v).heap.size=w4.heap.size:=fun v=>by simp [World.setCell]
 have hs:=m.size
 have ha:(w3.alloc o).heap.size=w3.heap.size+1:=by simp
 have hs4:=hg.size
 refine ⟨P',set_other' q0 (by omega),heap_setCell_same _ _ 0 _ _ _ q1,?_,fun b hb=>?_,q2.put (by omega),hr,by rw [hsz];exact q3,h.qs,h.ms⟩
 · rw [show rowOf encDefn (D.defs++[x])=(rowOf encDefn D.defs).snoc (encDefn x) from rowOf_snoc _ _ _]
   exact hR.next (Moved.set (r:=w.heap.size+1)) (by omega)
 · rw [hsz]
   rcases hb with hb|hb
   · have:=h.b1 b hb;omega
   · have:=h.lt;omega
theorem SK.roots {w:World} {r:Nat} {W:World} {V:Value} {D:SchT} {xs:List Value} {P X:Nat→Prop} (h:SK w r W V D xs P X) (q m:ByteArray) (hq:q.size≤9000) (hm:m.size≤9000):SK w r ((W.setCell ⟨w.heap.size+1,1,none⟩ (.string q)).setCell ⟨w.heap.size+1,2,none⟩ (.string m)) V ⟨D.defs,q,m⟩ xs P X:=by
 have hr:=h.hr
 have hsz:((W.setCell ⟨w.heap.size+1,1,none⟩ (.string q)).setCell ⟨w.heap.size+1,2,none⟩ (.string m)).heap.size=W.heap.size:=by simp [World.setCell]
 exact ⟨set_other' (set_other' h.res (by omega)) (by omega),heap_setCell_same _ _ 2 _ _ _ (heap_setCell_same _ _ 1 _ _ _ h.loc),(h.r1.next (Moved.set (r:=w.heap.size+1)) (by omega)).next (Moved.set (r:=w.heap.size+1)) (by omega),fun b hb=>by rw [hsz];exact h.b1 b hb,(h.mv.put (by omega)).put (by omega),hr,by rw [hsz];exact h.lt,hq,hm⟩
theorem SK.tree {w:World} {r:Nat} {W:World} {V:Value} {D:SchT} {xs:List Value} {P X:Nat→Prop} (h:SK w r W V D xs P X) (h1:D.defs.length≤9223372036854775807):OvS (w.heap.size+1) W (encSch D) [V,.string D.query,.string D.mutation]:=by
 have f1:=(show RTr _ _ _ _ _ _ from ⟨xs,P,h.r1.own,h.r1.val,h.r1.bd⟩:RTr 68 6 (w.heap.size+2) W V (rowOf encDefn D.defs)).fin (by rw [rowOf_len];exact h1)
 unfold encSch OvS
 exact TS.row (TP.keep (fun b hb=>⟨⟨by have:=hb.1;omega,hb.2⟩,rfl⟩) _ _ f1) (TS.str h.qs (TS.str h.ms (TS.nil _ _)))
theorem info_Def:(Tryz.prog.info? 68).map (fun i=>(i.zero,i.size,i.bytes))=some (some (.agg #[.int .i64 0,.string ⟨#[]⟩,.slice none 0 0,.slice none 0 0,.slice none 0 0,.slice none 0 0]),6,120):=by kernel_rfl
theorem faces_suf {ts r:List Tok} {l:List ByteArray} (h:facesR ts=.ok (l,r)):r <:+ ts:=by
 unfold facesR at h
 split at h
 · rename_i hb
   exact ((names_sfx h).trans (at_sfx hb)).1
 · have e:=(Prod.mk.inj (Except.ok.inj h)).2
   subst e
   exact List.suffix_refl _
theorem body_sfx {d:Nat} {k:Int} {n:ByteArray} {ts r:List Tok} {x:DefnT} (h:bodyR d k n ts=.ok (x,r)):Sfx r ts:=by
 unfold bodyR at h
 split at h
 · cases hf:facesR ts with
   | error x=>rw [hf] at h;cases h
   | ok q =>
     obtain ⟨fs,r1⟩:=q
     rw [hf] at h
     simp only at h
     split at h
     · rename_i hb
       cases hs:serR (fdR d) addL cmB (r1.tail.length+1) [] r1.tail with
       | error x=>rw [hs] at h;cases h
       | ok q =>
         obtain ⟨l,r2⟩:=q
         rw [hs] at h
         have e:=(Prod.mk.inj (Except.ok.inj h)).2
         subst e
         exact ((ser_sfx (fun _ _ _ h=>fd_sfx h) _ _ _ _ _ hs).trans (at_sfx hb)).le (faces_suf hf)
     · cases h
 · split at h
   · split at h
     · rename_i hb
       cases hs:namesR barB ts.tail with
       | error x=>rw [hs] at h;cases h
       | ok q =>
         obtain ⟨l,r2⟩:=q
         rw [hs] at h
         have e:=(Prod.mk.inj (Except.ok.inj h)).2
         subst e
         exact (names_sfx hs).trans (at_sfx hb)
     · cases h
   · split at h
     · split at h
       · rename_i hb
         cases hs:serR enR addL cmB (ts.tail.length+1) [] ts.tail with
         | error x=>rw [hs] at h;cases h
         | ok q =>
           obtain ⟨l,r2⟩:=q
           rw [hs] at h
           have e:=(Prod.mk.inj (Except.ok.inj h)).2
           subst e
           exact (ser_sfx (fun _ _ _ h=>en_sfx h) _ _ _ _ _ hs).trans (at_sfx hb)
       · cases h
     · split at h
       · rename_i hb
         cases hs:serR (parR d) addL cmB (ts.tail.length+1) [] ts.tail with
         | error x=>rw [hs] at h;cases h
         | ok q =>
           obtain ⟨l,r2⟩:=q
           rw [hs] at h
           have e:=(Prod.mk.inj (Except.ok.inj h)).2
           subst e
           exact (ser_sfx (fun _ _ _ h=>par_sfx h) _ _ _ _ _ hs).trans (at_sfx hb)
       · cases h
theorem defn_sfx {d:Nat} {ts r:List Tok} {x:DefnT} (h:defnR d ts=.ok (x,r)):Sfx r ts:=by
 unfold defnR at h
 cases hn:nameR ts with
 | none=>rw [hn] at h;cases h
 | some q =>
   obtain ⟨n,r1⟩:=q
   rw [hn] at h
   simp only at h
   split at h
   · cases h
   · cases hm:nameR r1 with
     | none=>rw [hm] at h;cases h
     | some q =>
       obtain ⟨m,r2⟩:=q
       rw [hm] at h
       exact (body_sfx h).trans ((name_sfx hm).trans (name_sfx hn))
theorem mutR_suf {ts r:List Tok} {m:ByteArray} (h:mutR ts=.ok (m,r)):r <:+ ts:=by
 unfold mutR at h
 split at h
 · rename_i hb
   split at h
   · rename_i hc
     cases hn:nameR ts.tail.tail with
     | none=>rw [hn] at h;cases h
     | some q =>
       obtain ⟨n,r1⟩:=q
       rw [hn] at h
       have e:=(Prod.mk.inj (Except.ok.inj h)).2
       subst e
       exact ((name_sfx hn).trans ((at_sfx hc).trans (at_sfx hb))).1
   · cases h
 · have e:=(Prod.mk.inj (Except.ok.inj h)).2
   subst e
   exact List.suffix_refl _
theorem roots_sfx {ts r:List Tok} {p:ByteArray × ByteArray} (h:rootsR ts=.ok (p,r)):Sfx r ts:=by
 unfold rootsR at h
 split at h
 · rename_i h1
   split at h
   · rename_i h2
     split at h
     · rename_i h3
       cases hn:nameR ts.tail.tail.tail with
       | none=>rw [hn] at h;cases h
       | some q =>
         obtain ⟨n,r1⟩:=q
         rw [hn] at h
         simp only at h
         cases hm:mutR r1 with
         | error x=>rw [hm] at h;cases h
         | ok q =>
           obtain ⟨m,r2⟩:=q
           rw [hm] at h
           simp only at h
           split at h
           · rename_i hc
             have e:=(Prod.mk.inj (Except.ok.inj h)).2
             subst e
             exact ((at_sfx hc).le (mutR_suf hm)).trans ((name_sfx hn).trans ((at_sfx h3).trans ((at_sfx h2).trans (at_sfx h1))))
           · cases h
     · cases h
   · cases h
 · cases h
theorem defn_open {w:World} {P:Nat→Prop} {a:DefnT} {v:Value} (h:layS encDefn w P a v):∃ (i0:Int) (s1:ByteArray) (A2:Option Addr) (n2 c2:Nat) (A3:Option Addr) (n3 c3:Nat) (A4:Option Addr) (n4 c4:Nat) (A5:Option Addr) (n5 c5:Nat),v=.agg #[.int .i64 i0,.string s1,.slice A2 n2 c2,.slice A3 n3 c3,.slice A4 n4 c4,.slice A5 n5 c5]∧TS w P (encDefn a) [.int .i64 i0,.string s1,.slice A2 n2 c2,.slice A3 n3 c3,.slice A4 n4 c4,.slice A5 n5 c5]:=by
 obtain ⟨cs,rfl,h⟩:=h
 have h0:=h
 unfold encDefn at h0
 simp only [TS,TP] at h0
 obtain ⟨c0,_,rfl,⟨rfl,_⟩,c1,_,rfl,⟨rfl,_⟩,c2,_,rfl,⟨A2,k2,rfl,_,_⟩,c3,_,rfl,⟨A3,k3,rfl,_,_⟩,c4,_,rfl,⟨A4,k4,rfl,_,_⟩,c5,_,rfl,⟨A5,k5,rfl,_,_⟩,rfl⟩:=h0
 exact ⟨_,_,_,_,_,_,_,_,_,_,_,_,_,_,rfl,h⟩
theorem sd_three {w:World} {b:Nat} {z0 z1 z2:Value} {t:TypeId} (h:w.heap[b]? = some (.cells #[z0,z1,z2] t (0,0))):w.cell? ⟨b,0,none⟩=some z0∧w.cell? ⟨b,1,none⟩=some z1∧w.cell? ⟨b,2,none⟩=some z2∧∀ i,w.frozen? ⟨b,i,none⟩=false:=by
 refine ⟨?_,?_,?_,fun i=>?_⟩
 all_goals first|(simp only [World.cell?,h];rfl)|simp [World.frozen?,h]
theorem SK.row {w:World} {r:Nat} {W:World} {A:Option Addr} {n c:Nat} {D:SchT} {xs:List Value} {P X:Nat→Prop} (h:SK w r W (.slice A n c) D xs P X) (h1:D.defs.length≤9223372036854775807):n=D.defs.length∧RowT W (fun b=>b < W.heap.size) (rowOf encDefn D.defs) A:=by
 have f1:=(show RTr _ _ _ _ _ _ from ⟨xs,P,h.r1.own,h.r1.val,h.r1.bd⟩:RTr 68 6 (w.heap.size+2) W (.slice A n c) (rowOf encDefn D.defs)).fin (by rw [rowOf_len];exact h1)
 unfold TP at f1
 obtain ⟨A',c',e,_,hr⟩:=f1
 injection e with e1 e2 e3
 subst e1
 exact ⟨by rw [e2,rowOf_len],RowT.keep (fun b hb=>⟨hb.2,rfl⟩) _ _ hr⟩
end Go.Proofs.YtkacnnhdfkpenaaGreatDoor
