/- defs.find and what asks it: is, Leaf, Composite, Entry. -/
import Derived.Test.YtaekdfcpbepepaaGreatDoorQb1
import Derived.Deep.Cut
import Derived.Maps.Own
import Derived.Maps.Views
import Derived.Laws.EntriesVeiled
set_option maxRecDepth 100000
set_option maxHeartbeats 4000000
namespace Go.Proofs.YtaekdfcpbepepaaGreatDoor
open Go.RowKit
def scalarB (n:ByteArray):Bool:=n.toList == [73,110,116] || n.toList == [83,116,114,105,110,103] || n.toList == [66,111,111,108,101,97,110] || n.toList == [73,68]
def zeroD:DefnT:=⟨0,⟨#[]⟩,[],[],[],[]⟩
def findL:List DefnT→ByteArray→DefnT × Bool
 | [],_=>(zeroD,false)
 | d :: t,n=>if d.name.toList == n.toList then (d,true) else findL t n
def findD (l:List DefnT) (n:ByteArray):DefnT × Bool:=if scalarB n=true then (⟨0,n,[],[],[],[]⟩,true) else findL l n
theorem findL_at {l:List DefnT} {q:Nat} {d:DefnT} {n:ByteArray} (h:l[q]? = some d):findL (l.drop q) n=if d.name.toList == n.toList then (d,true) else findL (l.drop (q+1)) n:=by
 have hq:q < l.length:=(List.getElem?_eq_some_iff.1 h).1
 have e:l[q]=d:=(List.getElem?_eq_some_iff.1 h).2
 rw [List.drop_eq_getElem_cons hq,e,findL]
theorem defn_cells {w:World} {P:Nat→Prop} {d:DefnT} {cs:List Value} (h:TS w P (encDefn d) cs) :
  ∃ Af kf Ax kx Ap kp Am km,cs=[.int .i64 d.kind,.string d.name,.slice Af d.faces.length kf,.slice Ax d.fields.length kx,.slice Ap d.parts.length kp,.slice Am d.params.length km]∧d.name.size≤9223372036854775807 ∧
    (d.faces.length≤9223372036854775807∧RowT w P (rowOf encStr d.faces) Af)∧(d.fields.length≤9223372036854775807∧RowT w P (rowOf encField d.fields) Ax) ∧
    (d.parts.length≤9223372036854775807∧RowT w P (rowOf encStr d.parts) Ap)∧d.params.length≤9223372036854775807∧RowT w P (rowOf encVar d.params) Am:=by
 simp only [encDefn,TS,TP] at h
 obtain ⟨c0,_,rfl,⟨rfl,_⟩,c1,_,rfl,⟨rfl,hz⟩,c2,_,rfl,⟨Af,kf,rfl,l2,h2⟩,c3,_,rfl,⟨Ax,kx,rfl,l3,h3⟩,c4,_,rfl,⟨Ap,kp,rfl,l4,h4⟩,c5,_,rfl,⟨Am,km,rfl,l5,h5⟩,rfl⟩:=h
 simp only [rowOf_len] at *
 exact ⟨Af,kf,Ax,kx,Ap,kp,Am,km,rfl,hz,⟨l2,h2⟩,⟨l3,h3⟩,⟨l4,h4⟩,l5,h5⟩
theorem defn_at {w:World} {P:Nat→Prop} {l:List DefnT} {A:Option Addr} {q:Nat} {d:DefnT} (h:RowT w P (rowOf encDefn l) A) (hx:l[q]? = some d) :
  ∃ b p c0 c1 c2 c3 c4 c5,A=some ⟨b,p,none⟩∧P b∧(w.cell? ⟨b,p+q*6,none⟩=some c0∧w.cell? ⟨b,p+q*6+1,none⟩=some c1∧w.cell? ⟨b,p+q*6+2,none⟩=some c2∧w.cell? ⟨b,p+q*6+3,none⟩=some c3∧w.cell? ⟨b,p+q*6+4,none⟩=some c4∧w.cell? ⟨b,p+q*6+5,none⟩=some c5)∧TS w P (encDefn d) [c0,c1,c2,c3,c4,c5]:=by
 obtain ⟨b,p,cs,e,hb,hc,h1⟩:=rowOf_at 6 (fun _=>rfl) h hx
 obtain ⟨Af,kf,Ax,kx,Ap,kp,Am,km,rfl,_⟩:=defn_cells h1
 exact ⟨b,p,_,_,_,_,_,_,e,hb,⟨hc 0 _ rfl,hc 1 _ rfl,hc 2 _ rfl,hc 3 _ rfl,hc 4 _ rfl,hc 5 _ rfl⟩,h1⟩
theorem TS.low {w w':World} {B:Nat} (hb:Below B w w') {s:TrS} {cs:List Value} (h:TS w (fun b=>b < B) s cs):TS w' (fun b=>b < B) s cs:=
 TS.keep (fun b hlt=>⟨hlt,hb.block b hlt⟩) _ _ h
theorem sch_cells {w:World} {P:Nat→Prop} {S:SchT} {cs:List Value} (h:TS w P (encSch S) cs) :
  ∃ A k,cs=[.slice A S.defs.length k,.string S.query,.string S.mutation]∧S.defs.length≤9223372036854775807∧RowT w P (rowOf encDefn S.defs) A:=by
 simp only [encSch,TS,TP] at h
 obtain ⟨c0,_,rfl,⟨A,k,rfl,l0,h0⟩,c1,_,rfl,⟨rfl,_⟩,c2,_,rfl,⟨rfl,_⟩,rfl⟩:=h
 simp only [rowOf_len] at *
 exact ⟨A,k,rfl,l0,h0⟩
theorem ret_d2 {R:Ending→World→Prop} {fn:Func} {a:Act} {W:World} {c0 c1 c2 c3 c4 c5:Value} {p u b:Nat} (hf:fn.results=#[.cell p 37,.tmp u]) (h2:a.tmps.getD p undef=.pointer (some ⟨b,0,none⟩)) (hd:a.defers=[])
  (hc:W.heap[b]? = some (.cells #[c0,c1,c2,c3,c4,c5] 37 (0,0))) (hR:R (.returned (.tuple #[.agg #[c0,c1,c2,c3,c4,c5],a.tmps.getD u undef])) W):bodyPost Tryz.prog fn R .ret a W:=by
 have hl:(loadVar 37 ⟨b,0,none⟩).run Tryz.prog W=.ok (.agg #[c0,c1,c2,c3,c4,c5]) W:=
  run_loadVar_row W b 37 37 #[c0,c1,c2,c3,c4,c5] (0,0) _ hc Tryz.underlying37 rfl (by kernel_rfl)
 refine bodyPost_ret ?_ hd hR
 have h2':a.tmps[p]?.getD undef=.pointer (some ⟨b,0,none⟩):=by rw [← h2];simp
 simp [results,hf,h2',asAddr,hl]
def FoundD (x:DefnT × Bool) (B:Nat) (w:World) (e:Ending) (w':World):Prop:=
 ∃ c0 c1 c2 c3 c4 c5,e=.returned (.tuple #[.agg #[c0,c1,c2,c3,c4,c5],.bool x.2])∧TS w' (fun b=>b < B) (encDefn x.1) [c0,c1,c2,c3,c4,c5]∧Below w.heap.size w w'
theorem defn_none {w:World} {B:Nat} (k:Int) (n:ByteArray) (hn:n.size≤9223372036854775807):TS w (fun b=>b < B) (encDefn ⟨k,n,[],[],[],[]⟩) [.int .i64 k,.string n,.slice none 0 0,.slice none 0 0,.slice none 0 0,.slice none 0 0]:=by
 simp only [encDefn,TS,TP,rowOf]
 exact ⟨_,_,rfl,⟨rfl,trivial⟩,_,_,rfl,⟨rfl,hn⟩,_,_,rfl,⟨none,0,rfl,by simp [TrL.len],by unfold RowT;trivial⟩,_,_,rfl,⟨none,0,rfl,by simp [TrL.len],by unfold RowT;trivial⟩,_,_,rfl,⟨none,0,rfl,by simp [TrL.len],by unfold RowT;trivial⟩,_,_,rfl,⟨none,0,rfl,by simp [TrL.len],by unfold RowT;trivial⟩,rfl⟩
theorem dbelow_new (w:World) (o:Obj):Below w.heap.size w (w.alloc o):=(Below.refl _ _).alloc (Nat.le_refl _) _
theorem tbl (w:World) (o o':Obj):Below w.heap.size w ((w.alloc o).alloc o'):=(dbelow_new w o).alloc (by simp) _
theorem heap_two (w:World) (o o':Obj):((w.alloc o).alloc o').heap[w.heap.size+1]? = some o':=by
 have:=heap_alloc_new (w.alloc o) o'
 rwa [show (w.alloc o).heap.size=w.heap.size+1 by simp] at this
def FK (w:World) (o:Obj) (W:World):Prop:=Below w.heap.size w W∧W.heap[w.heap.size+1]? = some o∧w.heap.size+2≤W.heap.size
theorem FK.start (w:World) (o o':Obj):FK w o' ((w.alloc o).alloc o'):=⟨tbl _ _ _,heap_two _ _ _,by simp⟩
theorem FK.next {w W W':World} {o:Obj} (h:FK w o W) (hb:Below W.heap.size W W'):FK w o W':=
 ⟨h.1.trans (hb.mono h.1.size),(hb.block _ (by have:=h.2.2;omega)).trans h.2.1,Nat.le_trans h.2.2 hb.size⟩
theorem six_cells {w:World} {g:Nat} {c0 c1 c2 c3 c4 c5:Value} {t:TypeId} (h:w.heap[g]? = some (.cells #[c0,c1,c2,c3,c4,c5] t (0,0))):(w.cell? ⟨g,0,none⟩=some c0∧w.cell? ⟨g,1,none⟩=some c1∧w.cell? ⟨g,2,none⟩=some c2∧w.cell? ⟨g,3,none⟩=some c3∧w.cell? ⟨g,4,none⟩=some c4∧w.cell? ⟨g,5,none⟩=some c5) ∧
  w.frozen? ⟨g,0,none⟩=false∧w.frozen? ⟨g,1,none⟩=false∧w.frozen? ⟨g,2,none⟩=false∧w.frozen? ⟨g,3,none⟩=false∧w.frozen? ⟨g,4,none⟩=false∧w.frozen? ⟨g,5,none⟩=false:=by
 simp [World.cell?,World.frozen?,h]
theorem six_set {w:World} {b:Nat} {t:TypeId} {x0 x1 x2 x3 x4 x5 c0 c1 c2 c3 c4 c5:Value} (h:w.heap[b]? = some (.cells #[x0,x1,x2,x3,x4,x5] t (0,0))) :
  ((((((w.setCell ⟨b,0,none⟩ c0).setCell ⟨b,1,none⟩ c1).setCell ⟨b,2,none⟩ c2).setCell ⟨b,3,none⟩ c3).setCell ⟨b,4,none⟩ c4).setCell ⟨b,5,none⟩ c5).heap[b]? = some (.cells #[c0,c1,c2,c3,c4,c5] t (0,0)):=by
 simp [World.setCell,Array.getElem?_modify,h]
theorem six_low {w0 w:World} {B b:Nat} {c0 c1 c2 c3 c4 c5:Value} (h:Below B w0 w) (hb:B≤b):Below B w0 ((((((w.setCell ⟨b,0,none⟩ c0).setCell ⟨b,1,none⟩ c1).setCell ⟨b,2,none⟩ c2).setCell ⟨b,3,none⟩ c3).setCell ⟨b,4,none⟩ c4).setCell ⟨b,5,none⟩ c5):=
 (((((h.setCell hb _).setCell hb _).setCell hb _).setCell hb _).setCell hb _).setCell hb _
theorem find_any (S:SchT) (n:ByteArray) (c0 c1 c2:Value) (w:World) (B:Nat) (hB:B≤w.heap.size) (hn:n.size≤9223372036854775807) (hS:TS w (fun b=>b < B) (encSch S) [c0,c1,c2]) :
   Calls Tryz.prog 38 #[.agg #[c0,c1,c2],.string n] w (FoundD (findD S.defs n) B w):=by
 obtain ⟨A,k,e,hl,hR⟩:=sch_cells hS
 injection e with e0 e
 injection e with e1 e
 injection e with e2 e
 subst e0 e1 e2
 have HB0:=Hd hB
 have HR:=Hd hR
 have HN:=Hd hn
 clear hB hS hR e
 cases hs:scalarB n with
 | true =>
   have hF:Hid (findD S.defs n=(⟨0,n,[],[],[],[]⟩,true)):=Hd (by unfold findD;rw [if_pos hs])
   unfold scalarB at hs
   simp only [Bool.or_eq_true] at hs
   clear hl
   obtain ⟨x0,h0⟩:∃ x,(n.toList == [73,110,116])=x:=⟨_,rfl⟩
   obtain ⟨x1,h1⟩:∃ x,(n.toList == [83,116,114,105,110,103])=x:=⟨_,rfl⟩
   obtain ⟨x2,h2⟩:∃ x,(n.toList == [66,111,111,108,101,97,110])=x:=⟨_,rfl⟩
   obtain ⟨x3,h3⟩:∃ x,(n.toList == [73,68])=x:=⟨_,rfl⟩
   rw [h0,h1,h2,h3] at hs
   have HS:=Hd hs
   clear hs
   cases x0
   case true =>
    clear h1 h2 h3
    go_enter Tryz.func38,Tryz.ntmps38
    go_wp2_with fail
    refine ret_d2 rfl rfl rfl (heap_two _ _ _) ?_
    rw [hF.out]
    exact ⟨_,_,_,_,_,_,rfl,defn_none _ _ HN.out,tbl _ _ _⟩
   cases x1
   case true =>
    clear h2 h3
    go_enter Tryz.func38,Tryz.ntmps38
    go_wp2_with fail
    refine ret_d2 rfl rfl rfl (heap_two _ _ _) ?_
    rw [hF.out]
    exact ⟨_,_,_,_,_,_,rfl,defn_none _ _ HN.out,tbl _ _ _⟩
   cases x2
   case true =>
    clear h3
    go_enter Tryz.func38,Tryz.ntmps38
    go_wp2_with fail
    refine ret_d2 rfl rfl rfl (heap_two _ _ _) ?_
    rw [hF.out]
    exact ⟨_,_,_,_,_,_,rfl,defn_none _ _ HN.out,tbl _ _ _⟩
   cases x3
   case true =>
    go_enter Tryz.func38,Tryz.ntmps38
    go_wp2_with fail
    refine ret_d2 rfl rfl rfl (heap_two _ _ _) ?_
    rw [hF.out]
    exact ⟨_,_,_,_,_,_,rfl,defn_none _ _ HN.out,tbl _ _ _⟩
   have:=HS.out
   simp at this
 | false =>
   have hF:Hid (findD S.defs n=findL S.defs n):=Hd (by unfold findD;rw [if_neg (by rw [hs];decide)])
   unfold scalarB at hs
   simp only [Bool.or_eq_false_iff] at hs
   obtain ⟨⟨⟨h0,h1⟩,h2⟩,h3⟩:=hs
   obtain ⟨l,el⟩:∃ l,S.defs=l:=⟨_,rfl⟩
   rw [el] at hF HR hl ⊢
   clear el
   go_enter Tryz.func38,Tryz.ntmps38
   go_wp2_with fail
   clear h0 h1 h2 h3
   go_loopg [19] l.length (fun g i wx=>∃ q:Nat,q+g=l.length∧i=.int .i64 q∧Aside (findL (l.drop q) n=findL l n)∧FK w (.cells #[.int .i64 0,.string ⟨#[]⟩,.slice none 0 0,.slice none 0 0,.slice none 0 0,.slice none 0 0] 37) wx)
   case atStart=>exact ⟨0,by omega,rfl,Blk.Aside.intro (by rw [List.drop_zero]),FK.start _ _ _⟩
   case round =>
    obtain ⟨q,hq,rfl,HA,hK⟩:=hrel
    have K:=Hd hK
    clear hK
    cases gk with
    | zero =>
      obtain rfl:q=l.length:=by omega
      have hG:Hid (findL l n=(zeroD,false)):=Hd (by rw [← HA.out,List.drop_length];rfl)
      obtain ⟨g0,f0⟩:=six_cells K.out.2.1
      clear HA
      go_wp2_with fail
      refine ret_d2 rfl rfl rfl (six_set K.out.2.1) ?_
      rw [hF.out,hG.out]
      exact ⟨_,_,_,_,_,_,rfl,defn_none _ _ (by decide),six_low K.out.1 (by omega)⟩
    | succ g =>
      have hqn:q < l.length:=by omega
      have hqn':(q:Int) < (l.length:Int):=by omega
      obtain ⟨d,hd⟩:∃ x,l[q]? = some x:=⟨_,List.getElem?_eq_getElem hqn⟩
      obtain ⟨b,p,d0,d1,d2,d3,d4,d5,rfl,hlt,⟨g0,g1,g2,g3,g4,g5⟩,hT⟩:=defn_at (RowT.below (K.out.1.mono HB0.out) HR.out) hd
      have HT:=Hd hT
      obtain ⟨Af,kf,Ax,kx,Ap,kp,Am,km,e,_⟩:=defn_cells hT
      simp only [List.cons.injEq,and_true] at e
      obtain ⟨rfl,rfl,rfl,rfl,rfl,rfl⟩:=e
      have hN:=findL_at (n:=n) hd
      have hlt':b < wr.heap.size:=Nat.lt_of_lt_of_le hlt (Nat.le_trans HB0.out K.out.1.size)
      clear hT hd hlt
      cases e:(d.name.toList == n.toList) with
      | true =>
        have hG:Hid (findL l n=(d,true)):=Hd (by rw [← HA.out,hN,if_pos e])
        have HL:=Hd (K.out.1.mono HB0.out)
        clear HA hN
        go_upto_region 11 with fail
        clear g0 g1 g2 g3 g4 g5
        have hx:=heap_alloc_new wr (.cells #[.int .i64 d.kind,.string d.name,.slice Af d.faces.length kf,.slice Ax d.fields.length kx,.slice Ap d.parts.length kp,.slice Am d.params.length km] 37)
        have K2:=Hd (K.out.next (dbelow_new wr (.cells #[.int .i64 d.kind,.string d.name,.slice Af d.faces.length kf,.slice Ax d.fields.length kx,.slice Ap d.parts.length kp,.slice Am d.params.length km] 37)))
        have HT2:=Hd (TS.low ((dbelow_new wr (.cells #[.int .i64 d.kind,.string d.name,.slice Af d.faces.length kf,.slice Ax d.fields.length kx,.slice Ap d.parts.length kp,.slice Am d.params.length km] 37)).mono (Nat.le_trans HB0.out K.out.1.size)) HT.out)
        generalize wr.alloc (.cells #[.int .i64 d.kind,.string d.name,.slice Af d.faces.length kf,.slice Ax d.fields.length kx,.slice Ap d.parts.length kp,.slice Am d.params.length km] 37)=wz at hx K2 HT2 ⊢
        obtain ⟨⟨y0,y1,y2,y3,y4,y5⟩,_⟩:=six_cells hx
        obtain ⟨⟨z0,z1,z2,z3,z4,z5⟩,zf0,zf1,zf2,zf3,zf4,zf5⟩:=six_cells K2.out.2.1
        have hne : ¬ w.heap.size+1=wr.heap.size:=by have:=K.out.2.2;omega
        clear hx
        go_wp2_with fail
        refine ret_d2 rfl rfl rfl (six_set K2.out.2.1) ?_
        rw [hF.out,hG.out]
        exact ⟨_,_,_,_,_,_,rfl,TS.low (B:=B) (six_low (b:=w.heap.size+1) (Below.refl _ _) (Nat.le_succ_of_le HB0.out)) HT2.out,six_low (b:=w.heap.size+1) K2.out.1 (Nat.le_succ _)⟩
      | false =>
        have hG:Hid (findL (l.drop (q+1)) n=findL l n):=Hd (by rw [← HA.out,hN,if_neg (by rw [e];decide)])
        clear HA hN
        go_wp2_with fail
        go_roundg g
        case measure=>omega
        case rel=>exact ⟨q+1,by omega,by go_num,Blk.Aside.intro hG.out,K.out.next (dbelow_new _ _)⟩
def isD (l:List DefnT) (n:ByteArray) (ks:List Int):Bool:=(findD l n).2 && hasI ks (findD l n).1.kind
theorem ints_new (w:World) {o:Obj} {t:TypeId} {l:List Int} {B:Nat} (hB:w.heap.size < B) (ho:o=.cells (l.map (Value.int .i64)).toArray t):IntsAt (w.alloc o) B (some ⟨w.heap.size,0,none⟩) l:=fun j x hx=>by
 refine ⟨_,_,rfl,hB,?_⟩
 subst ho
 rw [World.cell?_alloc_at _ _ _ _ rfl]
 simp [hx]
theorem is_any (S:SchT) (n:ByteArray) (ks:List Int) (Ak:Option Addr) (nk ck:Nat) (c0 c1 c2:Value) (w:World) (B:Nat) (hB:B≤w.heap.size) (hn:n.size≤9223372036854775807) (hnk:nk≤9223372036854775807) (hlk:ks.length=nk) (hk:IntsAt w w.heap.size Ak ks) (hS:TS w (fun b=>b < B) (encSch S) [c0,c1,c2]) :
   Calls Tryz.prog 42 #[.agg #[c0,c1,c2],.string n,.slice Ak nk ck] w fun e w'=>e=.returned (.bool (isD S.defs n ks))∧Below w.heap.size w w':=by
 have F:=fun (wx:World) (hb:Below w.heap.size w wx)=>Hd (find_any S n c0 c1 c2 wx B (Nat.le_trans hB hb.size) hn (TS.low (hb.mono hB) hS))
 have C:=fun (x:Int) (wx:World) (hb:Below w.heap.size w wx)=>Hd (contains_i Ak nk ck ks x wx hnk hlk (fun j y hy=>by
   obtain ⟨b,o,e,hlt,hc⟩:=(hk.below hb) j y hy
   exact ⟨b,o,e,Nat.lt_of_lt_of_le hlt hb.size,hc⟩))
 obtain ⟨A,k,e,hl,hR⟩:=sch_cells hS
 injection e with e0 e
 injection e with e1 e
 injection e with e2 e
 subst e0 e1 e2
 clear hB hS hR e hn hnk hlk hk hl
 unfold isD
 generalize findD S.defs n=x at F ⊢
 have B0:=Hd (dbelow_new w (.cells #[.slice A S.defs.length k,.string S.query,.string S.mutation] 24))
 go_enter Tryz.func42,Tryz.ntmps42
 go_wp2_with fail
 refine (F _ B0.out).out.mono ?_
 rintro e w1 ⟨d0,d1,d2,d3,d4,d5,rfl,hT,hb1⟩
 obtain ⟨Af,kf,Ax,kx,Ap,kp,Am,km,e,_⟩:=defn_cells hT
 simp only [List.cons.injEq,and_true] at e
 obtain ⟨rfl,rfl,rfl,rfl,rfl,rfl⟩:=e
 have B1:=Hd (B0.out.trans (hb1.mono B0.out.size))
 clear hT hb1 F
 obtain ⟨d,ok⟩:=x
 cases ok with
 | false =>
   go_wp2_with fail
   go_ret
   exact ⟨rfl,(B1.out.alloc B1.out.size _)⟩
 | true =>
   have B2:=fun o=>Hd (B1.out.alloc B1.out.size o)
   go_wp2_with fail
   refine (C _ _ (B2 _).out).out.mono ?_
   rintro e w3 ⟨rfl,hb3⟩
   have B3:=Hd ((B2 _).out.trans (hb3.mono (B2 _).out.size))
   clear hb3
   go_wp2_with fail
   go_ret
   exact ⟨Blk.ret_bool (by simp),B3.out⟩
def leafD (l:List DefnT) (n:ByteArray):Bool:=isD l n [0,4]
def compD (l:List DefnT) (n:ByteArray):Bool:=isD l n [1,2,3]
def entryD (l:List DefnT) (n:ByteArray):Bool:=isD l n [0,4,5]
theorem leaf_any (S:SchT) (n:ByteArray) (c0 c1 c2:Value) (w:World) (B:Nat) (hB:B≤w.heap.size) (hn:n.size≤9223372036854775807) (hS:TS w (fun b=>b < B) (encSch S) [c0,c1,c2]) :
  Calls Tryz.prog 26 #[.agg #[c0,c1,c2],.string n] w fun e w'=>e=.returned (.bool (leafD S.defs n))∧Below w.heap.size w w':=by
 have F:=fun (wx:World) (hb:Below w.heap.size w wx) (hk:IntsAt wx wx.heap.size (some ⟨w.heap.size+1,0,none⟩) [0,4])=>Hd (is_any S n [0,4] (some ⟨w.heap.size+1,0,none⟩) 2 2 c0 c1 c2 wx B (Nat.le_trans hB hb.size) hn (by decide) rfl hk (TS.low (hb.mono hB) hS))
 obtain ⟨A,k,e,_⟩:=sch_cells hS
 injection e with e0 e
 injection e with e1 e
 injection e with e2 e
 subst e0 e1 e2
 clear hB hS e hn
 unfold leafD
 generalize isD S.defs n [0,4]=x at F ⊢
 have B0:=Hd (fun o=>tbl w (.cells #[.slice A S.defs.length k,.string S.query,.string S.mutation] 24) o)
 have I0:=Hd (fun (t:TypeId)=>ints_new (w.alloc (.cells #[.slice A S.defs.length k,.string S.query,.string S.mutation] 24)) (o:=.cells #[.int .i64 0,.int .i64 4] t) (l:=[0,4]) (B:=w.heap.size+2) (by simp) rfl)
 go_enter Tryz.func26,Tryz.ntmps26
 go_wp2_with fail
 refine (F _ (B0.out _) (by have:=I0.out 3;simpa using this)).out.mono ?_
 rintro e w1 ⟨rfl,hb1⟩
 have B1:=Hd ((B0.out _).trans (hb1.mono (B0.out _).size))
 clear hb1 F
 go_wp2_with fail
 go_ret
 exact ⟨rfl,B1.out⟩
theorem composite_any (S:SchT) (n:ByteArray) (c0 c1 c2:Value) (w:World) (B:Nat) (hB:B≤w.heap.size) (hn:n.size≤9223372036854775807) (hS:TS w (fun b=>b < B) (encSch S) [c0,c1,c2]) :
  Calls Tryz.prog 27 #[.agg #[c0,c1,c2],.string n] w fun e w'=>e=.returned (.bool (compD S.defs n))∧Below w.heap.size w w':=by
 have F:=fun (wx:World) (hb:Below w.heap.size w wx) (hk:IntsAt wx wx.heap.size (some ⟨w.heap.size+1,0,none⟩) [1,2,3])=>Hd (is_any S n [1,2,3] (some ⟨w.heap.size+1,0,none⟩) 3 3 c0 c1 c2 wx B (Nat.le_trans hB hb.size) hn (by decide) rfl hk (TS.low (hb.mono hB) hS))
 obtain ⟨A,k,e,_⟩:=sch_cells hS
 injection e with e0 e
 injection e with e1 e
 injection e with e2 e
 subst e0 e1 e2
 clear hB hS e hn
 unfold compD
 generalize isD S.defs n [1,2,3]=x at F ⊢
 have B0:=Hd (fun o=>tbl w (.cells #[.slice A S.defs.length k,.string S.query,.string S.mutation] 24) o)
 have I0:=Hd (fun (t:TypeId)=>ints_new (w.alloc (.cells #[.slice A S.defs.length k,.string S.query,.string S.mutation] 24)) (o:=.cells #[.int .i64 1,.int .i64 2,.int .i64 3] t) (l:=[1,2,3]) (B:=w.heap.size+2) (by simp) rfl)
 go_enter Tryz.func27,Tryz.ntmps27
 go_wp2_with fail
 refine (F _ (B0.out _) (by have:=I0.out 3;simpa using this)).out.mono ?_
 rintro e w1 ⟨rfl,hb1⟩
 have B1:=Hd ((B0.out _).trans (hb1.mono (B0.out _).size))
 clear hb1 F
 go_wp2_with fail
 go_ret
 exact ⟨rfl,B1.out⟩
theorem entry_any (S:SchT) (n:ByteArray) (c0 c1 c2:Value) (w:World) (B:Nat) (hB:B≤w.heap.size) (hn:n.size≤9223372036854775807) (hS:TS w (fun b=>b < B) (encSch S) [c0,c1,c2]) :
  Calls Tryz.prog 108 #[.agg #[c0,c1,c2],.string n] w fun e w'=>e=.returned (.bool (entryD S.defs n))∧Below w.heap.size w w':=by
 have F:=fun (wx:World) (hb:Below w.heap.size w wx) (hk:IntsAt wx wx.heap.size (some ⟨w.heap.size+1,0,none⟩) [0,4,5])=>Hd (is_any S n [0,4,5] (some ⟨w.heap.size+1,0,none⟩) 3 3 c0 c1 c2 wx B (Nat.le_trans hB hb.size) hn (by decide) rfl hk (TS.low (hb.mono hB) hS))
 obtain ⟨A,k,e,_⟩:=sch_cells hS
 injection e with e0 e
 injection e with e1 e
 injection e with e2 e
 subst e0 e1 e2
 clear hB hS e hn
 unfold entryD
 generalize isD S.defs n [0,4,5]=x at F ⊢
 have B0:=Hd (fun o=>tbl w (.cells #[.slice A S.defs.length k,.string S.query,.string S.mutation] 24) o)
 have I0:=Hd (fun (t:TypeId)=>ints_new (w.alloc (.cells #[.slice A S.defs.length k,.string S.query,.string S.mutation] 24)) (o:=.cells #[.int .i64 0,.int .i64 4,.int .i64 5] t) (l:=[0,4,5]) (B:=w.heap.size+2) (by simp) rfl)
 go_enter Tryz.func108,Tryz.ntmps108
 go_wp2_with fail
 refine (F _ (B0.out _) (by have:=I0.out 3;simpa using this)).out.mono ?_
 rintro e w1 ⟨rfl,hb1⟩
 have B1:=Hd ((B0.out _).trans (hb1.mono (B0.out _).size))
 clear hb1 F
 go_wp2_with fail
 go_ret
 exact ⟨rfl,B1.out⟩
def SR (base:Nat) (W:World) (V:Value) (xs:List ByteArray):Prop:=W.ownsRow base 9 1 V xs.length (xs.map .string)
theorem SR.nil (base:Nat) (W:World):SR base W (.slice none 0 0) []:=World.ownsRow_nil _ _ _ _
theorem SR.low {base:Nat} {W W':World} {V:Value} {xs:List ByteArray} (h:SR base W V xs) (hb:Below W.heap.size W W'):SR base W' V xs:=own_low h hb
theorem SR.strs {base:Nat} {W:World} {V:Value} {xs:List ByteArray} (h:SR base W V xs):∃ A c,V=.slice A xs.length c∧Blk.StrsAt W W.heap.size A xs.length xs:=by
 obtain ⟨A,c,e⟩:=Blk.own_form h
 subst e
 exact ⟨A,c,rfl,(Blk.strs_of_own h).2⟩
theorem SR.mono {B B':Nat} {w:World} {V:Value} {xs:List ByteArray} (h:SR B w V xs) (hb:B'≤B):SR B' w V xs:=by
 obtain ⟨h0,h1⟩:=h
 refine ⟨h0,?_⟩
 rcases h1 with h1|⟨g,cap,cur,a1,a2,a3⟩
 · exact .inl h1
 · exact .inr ⟨g,cap,cur,a1,Nat.le_trans hb a2,a3⟩
theorem info_parts1 {t:TypeId} {z:Value} {s b:Nat} (h:(Tryz.prog.info? t).map (fun i=>(i.zero,i.size,i.bytes))=some (some z,s,b)):∃ i,Tryz.prog.info? t=some i∧i.zero=some z∧i.size=s∧i.bytes=b:=by
 cases hi:Tryz.prog.info? t with
 | none=>rw [hi] at h;cases h
 | some i=>rw [hi] at h;simp at h;exact ⟨i,rfl,h.1,h.2.1,h.2.2⟩
theorem info_txt:(Tryz.prog.info? 9).map (fun i=>(i.zero,i.size,i.bytes))=some (some (.string ⟨#[]⟩),1,16):=by kernel_rfl
theorem below_grown {B:Nat} {w w1 w2:World} {k:Option Nat} (h:Below B w w1) (hg:w1.grownBy w2 k) (hB:B≤w1.heap.size) (hk:∀ b,k=some b→B≤b):Below B w w2:=
 ⟨hg.os.trans h.os,hg.tape.trans h.tape,hg.output.trans h.output,Nat.le_trans h.size hg.size,fun i hi=>(hg.block i (by omega) (fun e=>by have:=hk i e.symm;omega)).trans (h.block i hi)⟩
theorem SR.own {base:Nat} {w:World} {V:Value} {xs:List ByteArray} (h:SR base w V xs):∀ b,V.ownBlock=some b→base≤b:=fun b hb=>(World.ownsRow.lt h b hb).1
def bearsB (d:DefnT) (f:ByteArray):Bool:=d.kind == 1 && hasN d.faces f
def bearersL:List DefnT→ByteArray→List ByteArray
 | [],_=>[]
 | d :: t,f=>if bearsB d f=true then d.name :: bearersL t f else bearersL t f
theorem bearers_snoc (l:List DefnT) (d:DefnT) (f:ByteArray):bearersL (l++[d]) f=bearersL l f++(if bearsB d f=true then [d.name] else []):=by
 induction l with
 | nil =>
   show bearersL [d] f=[]++_
   unfold bearersL bearersL
   split<;>rfl
 | cons a t ih=>rw [List.cons_append,bearersL,bearersL,ih];split<;>rfl
theorem bearers_len (l:List DefnT) (f:ByteArray):(bearersL l f).length≤l.length:=by
 induction l with
 | nil=>exact Nat.le_refl _
 | cons a t ih=>rw [bearersL];split<;>simp<;>omega
theorem bearers_take {l:List DefnT} {q:Nat} {d:DefnT} (f:ByteArray) (h:l[q]? = some d):bearersL (l.take (q+1)) f=bearersL (l.take q) f++(if bearsB d f=true then [d.name] else []):=by
 rw [List.take_add_one,h]
 exact bearers_snoc _ _ _
def RowS (xs:List ByteArray) (w:World) (e:Ending) (w':World):Prop:=∃ V,e=.returned V∧SR w.heap.size w' V xs∧Below w.heap.size w w'
theorem bearers_any (S:SchT) (f:ByteArray) (c0 c1 c2:Value) (w:World) (B:Nat) (hB:B≤w.heap.size) (hz:S.defs.length*16≤140737488355328) (hS:TS w (fun b=>b < B) (encSch S) [c0,c1,c2]) :
  Calls Tryz.prog 80 #[.agg #[c0,c1,c2],.string f] w (RowS (bearersL S.defs f) w):=by
 obtain ⟨i0,hi,hz0,hz1,hz2⟩:=info_parts1 info_txt
 obtain ⟨A,k,e,hl,hR⟩:=sch_cells hS
 injection e with e0 e
 injection e with e1 e
 injection e with e2 e
 subst e0 e1 e2
 obtain ⟨l,el⟩:∃ l,S.defs=l:=⟨_,rfl⟩
 have B0:=Hd (dbelow_new w (.cells #[.slice A S.defs.length k,.string S.query,.string S.mutation] 24))
 rw [el] at hl hR hz B0 ⊢
 have HB0:=Hd hB
 have HR:=Hd hR
 have HZ:=Hd hz
 clear hB hS hR e el hz
 go_enter Tryz.func80,Tryz.ntmps80
 go_wp2_with fail
 go_loopg [5,11] l.length (fun g out i wx=>∃ q:Nat,q+g=l.length∧i=.int .i64 q∧Aside (SR w.heap.size wx out (bearersL (l.take q) f)∧Below w.heap.size w wx))
 case atStart=>exact ⟨0,by omega,rfl,Blk.Aside.intro ⟨by rw [List.take_zero];exact SR.nil _ _,B0.out⟩⟩
 case round =>
  obtain ⟨q,hq,rfl,HA⟩:=hrel
  obtain ⟨hO,hb⟩:=HA.out
  have HO:=Hd hO
  have HBB:=Hd hb
  clear HA hO hb
  cases gk with
  | zero =>
    obtain rfl:q=l.length:=by omega
    have hE:Hid (SR w.heap.size wr u5 (bearersL l f)):=Hd (by have:=HO.out;rwa [List.take_length] at this)
    clear HO
    go_wp2_with fail
    go_ret
    exact ⟨_,rfl,hE.out,HBB.out⟩
  | succ g =>
    have hqn:q < l.length:=by omega
    have hqn':(q:Int) < (l.length:Int):=by omega
    obtain ⟨d,hd⟩:∃ x,l[q]? = some x:=⟨_,List.getElem?_eq_getElem hqn⟩
    obtain ⟨b,p,d0,d1,d2,d3,d4,d5,rfl,hlt,⟨g0,g1,g2,g3,g4,g5⟩,hT⟩:=defn_at (RowT.below (HBB.out.mono HB0.out) HR.out) hd
    obtain ⟨Af,kf,Ax,kx,Ap,kp,Am,km,e,hns,⟨hlf,hrf⟩,_⟩:=defn_cells hT
    simp only [List.cons.injEq,and_true] at e
    obtain ⟨rfl,rfl,rfl,rfl,rfl,rfl⟩:=e
    have hN:=Hd (bearers_take f hd)
    have hlt':b < wr.heap.size:=Nat.lt_of_lt_of_le hlt (Nat.le_trans HB0.out HBB.out.size)
    have hx:=heap_alloc_new wr (.cells #[.int .i64 d.kind,.string d.name,.slice Af d.faces.length kf,.slice Ax d.fields.length kx,.slice Ap d.parts.length kp,.slice Am d.params.length km] 37)
    have BX:=Hd (dbelow_new wr (.cells #[.int .i64 d.kind,.string d.name,.slice Af d.faces.length kf,.slice Ax d.fields.length kx,.slice Ap d.parts.length kp,.slice Am d.params.length km] 37))
    have hsz:Hid (wr.heap.size+1=(wr.alloc (.cells #[.int .i64 d.kind,.string d.name,.slice Af d.faces.length kf,.slice Ax d.fields.length kx,.slice Ap d.parts.length kp,.slice Am d.params.length km] 37)).heap.size):=Hd (by simp)
    have hC:=Hd (contains_s Af d.faces.length kf d.faces f (wr.alloc (.cells #[.int .i64 d.kind,.string d.name,.slice Af d.faces.length kf,.slice Ax d.fields.length kx,.slice Ap d.parts.length kp,.slice Am d.params.length km] 37)) hlf (((str_row hrf).below (BX.out.mono (Nat.le_trans HB0.out HBB.out.size))).more (Nat.le_trans HB0.out (Nat.le_trans HBB.out.size BX.out.size))))
    clear hT hd hlt hrf hlf
    cases e1:(d.kind == 1) with
    | false =>
      have hbe:Hid (bearersL (l.take (q+1)) f=bearersL (l.take q) f):=Hd (by rw [hN.out];unfold bearsB;rw [e1];simp)
      clear hx hC
      go_wp2_with fail
      go_roundg g
      case measure=>omega
      case rel=>exact ⟨q+1,by omega,by go_num,Blk.Aside.intro ⟨by rw [hbe.out];exact HO.out.low BX.out,HBB.out.trans (BX.out.mono HBB.out.size)⟩⟩
    | true =>
      go_upto_region 5 with fail
      generalize (wr.alloc (.cells #[.int .i64 d.kind,.string d.name,.slice Af d.faces.length kf,.slice Ax d.fields.length kx,.slice Ap d.parts.length kp,.slice Am d.params.length km] 37))=wz at hx BX hC hsz ⊢
      obtain ⟨⟨y0,y1,y2,y3,y4,y5⟩,_⟩:=six_cells hx
      clear g0 g1 g2 g3 g4 g5 hx
      go_wp2_with fail
      refine hC.out.mono ?_
      rintro e w3 ⟨rfl,hb3⟩
      have B3:=Hd (BX.out.trans (hb3.mono BX.out.size))
      have hlw:wr.heap.size < wz.heap.size:=by rw [← hsz.out];exact Nat.lt_succ_self _
      have z1:=(hb3.cell (p:=⟨wr.heap.size,1,none⟩) hlw).trans y1
      have hs3:=hb3.size
      clear y0 y1 y2 y3 y4 y5 hb3 hC
      cases e2:hasN d.faces f with
      | false =>
        have hbe:Hid (bearersL (l.take (q+1)) f=bearersL (l.take q) f):=Hd (by rw [hN.out];unfold bearsB;rw [e1,e2];simp)
        clear z1
        go_wp2_with fail
        go_roundg g
        case measure=>omega
        case rel=>exact ⟨q+1,by omega,by go_num,Blk.Aside.intro ⟨by rw [hbe.out];exact HO.out.low B3.out,HBB.out.trans (B3.out.mono HBB.out.size)⟩⟩
      | true =>
        have hbe:Hid (bearersL (l.take (q+1)) f=bearersL (l.take q) f++[d.name]):=Hd (by rw [hN.out];unfold bearsB;rw [e1,e2];simp)
        have hlb:(bearersL (l.take q) f).length≤q:=Nat.le_trans (bearers_len _ _) (by simp;omega)
        obtain ⟨Ao,co,rfl,_⟩:=HO.out.strs
        have O3:=Hd ((HO.out.low B3.out).low (dbelow_new w3 (.cells #[.string d.name] 9)))
        have hZ:=HZ.out
        have hso:=HBB.out.size
        go_wp2_with (at_builtin;refine wpList_append_lies _ rfl _ _ 32 rfl w.heap.size 9 i0 (.string ⟨#[]⟩) 1 16 Tryz.underlying32 hi hz0 hz1 hz2 rfl (by decide) _ (bearersL (l.take q) f).length ((bearersL (l.take q) f).map .string) rfl O3.out _ 1 1 [.string d.name] rfl rfl (fun j u hj=>World.news_of_block (heap_alloc_new _ _) j u hj) (by intro y hy;simp at hy;rcases hy with rfl<;>rfl) (by decide) (by unfold maxLen;omega) (by omega) (by simp;omega) _ rfl ?_;intro gg cap2 w4 hown4 hgrow hat hlt4;have HG4:=Hd hgrow;have HO4:=Hd hown4;have HT4:=Hd hat;clear hgrow hown4 hat)
        have B4:=Hd (below_grown (B:=w.heap.size) ((HBB.out.trans (B3.out.mono HBB.out.size)).alloc (Nat.le_trans HBB.out.size B3.out.size) (.cells #[.string d.name] 9)) HG4.out (by simp;omega) (fun b hb=>HO.out.own b hb))
        go_roundg g
        case measure=>omega
        case rel=>exact ⟨q+1,by omega,by go_num,Blk.Aside.intro ⟨by rw [hbe.out];unfold SR;rw [List.length_append,List.map_append];exact HO4.out,B4.out⟩⟩
theorem plain_bool_inv {P:Program} {e:TypeId} (he:P.underlying e=some .bool) {v:Value} {z:DataW Unit × List MemPlace} (h:plainElem P e v=some z):∃ x,v=.bool x∧z=(.lit (.bool x),[]):=by
 unfold plainElem at h
 rw [he] at h
 cases v<;>simp at h
 exact ⟨_,rfl,h.symm⟩
def SeenD (D:DataW Unit) (out:List ByteArray):Prop:=Maps.IsMap D∧∀ s:ByteArray,D.atKey (.string s.data.toList) (.lit (.bool false))=.lit (.bool (hasN out s))
theorem SeenD.nil:SeenD (.map []) []:=⟨Maps.isMap_empty,fun _=>rfl⟩
theorem SeenD.put {D:DataW Unit} {out:List ByteArray} (h:SeenD D out) (s:ByteArray):SeenD (D.put (.string s.data.toList) (.lit (.bool true))) (out++[s]):=by
 refine ⟨h.1.put _ _,fun t=>?_⟩
 by_cases e:t.data.toList=s.data.toList
 · rw [e,Maps.atKey_put_same h.1 (by trivial)]
   have:t=s:=ByteArray.ext (Array.toList_inj.1 e)
   subst this
   rw [show hasN (out++[t]) t=true from hasN_iff.2 (by simp)]
 · rw [Maps.atKey_put_other (fun e'=>e (by injection e')),h.2 t]
   have:hasN (out++[s]) t=hasN out t:=by
    unfold hasN
    rw [List.any_append]
    have:(s.data.toList == t.data.toList)=false:=beq_eq_false_iff_ne.2 (fun e'=>e e'.symm)
    simp only [List.any_cons,List.any_nil,this,Bool.or_false]
   rw [this]
theorem zero_bool (w:World):(zeroValue 4).run Tryz.prog w=.ok (.bool false) w:=by rfl
theorem txt_new (w:World) (s:ByteArray) (t:TypeId) {g:Nat} (hg:g=w.heap.size):∀ (j:Nat) u,[Value.string s][j]? = some u→(w.alloc (.cells #[.string s] t)).cell? ((⟨g,0,none⟩:Addr).add j)=some u:=by
 subst hg
 intro j u hu
 rw [add_at,Nat.zero_add]
 match j,hu with
 | 0,hu=>cases hu;rw [World.cell?_alloc_at _ _ _ _ rfl];rfl
theorem seen_look {g n:Nat} {w:World} {out:List ByteArray} {D:DataW Unit} (hm:w.ownsMap Tryz.prog 9 (plainElem Tryz.prog 4) g n D) (hD:SeenD D out) (s:ByteArray) (hs:s.size≤maxLen) :
  (Instr.lookup 123 (.map (some g)) (.string s) false).run Tryz.prog w=.ok (.bool (hasN out s)) w:=by
 have hkey:=WideMaps.keyOf_string_mk (P:=Tryz.prog) Tryz.underlying9 hs
 obtain ⟨v,ps,hrun,hv⟩:=hm.lookup (Maps.string_keyed Tryz.underlying9) Tryz.underlying123 (zero_bool w) (plainElem_bool Tryz.underlying4 false) hkey
 obtain ⟨x,rfl,hx⟩:=plain_bool_inv Tryz.underlying4 hv
 have e:x=hasN out s:=by
  have e1:=congrArg Prod.fst hx
  rw [hD.2 s] at e1
  injection e1 with e1
  injection e1 with e1
  exact e1.symm
 rw [hrun,e]
def onceL (xs:List ByteArray):List ByteArray:=xs.foldl addN []
theorem once_take {xs:List ByteArray} {k:Nat} {x:ByteArray} (h:xs[k]? = some x):onceL (xs.take (k+1))=addN (onceL (xs.take k)) x:=by
 unfold onceL
 rw [List.take_add_one,h,List.foldl_append]
 rfl
theorem adds_len:∀ (l out:List ByteArray),(l.foldl addN out).length≤out.length+l.length
 | [],out=>by simp
 | s :: t,out=>by
   rw [List.foldl_cons]
   have:=adds_len t (addN out s)
   have:(addN out s).length≤out.length+1:=by unfold addN;split<;>simp
   rw [List.length_cons]
   omega
theorem once_len (xs:List ByteArray):(onceL xs).length≤xs.length:=by
 have:=adds_len xs []
 unfold onceL
 simpa using this
theorem once_any (A:Option Addr) (n c:Nat) (xs:List ByteArray) (w:World) (hz:n*16≤140737488355328) (hs:StrB xs) (ha:Blk.StrsAt w w.heap.size A n xs) :
  Calls Tryz.prog 79 #[.slice A n c] w (RowS (onceL xs) w):=by
 obtain ⟨i0,hi,hz0,hz1,hz2⟩:=info_parts1 info_txt
 have hmm:=@run_makeMap Tryz.prog
 have HA:=Hd ha
 have HS:=Hd hs
 have HZ:=Hd hz
 have B0:=Hd (dbelow_new w (.map #[] 0))
 have M0:=Hd (World.ownsMap_made w Tryz.prog 9 (plainElem (H:=Unit) Tryz.prog 4))
 have hn:n≤9223372036854775807:=by omega
 clear ha hs hz
 go_enter Tryz.func79,Tryz.ntmps79
 go_wp2_with fail
 clear hmm
 go_loopg [3,10] n (fun g out i wx=>∃ q:Nat,q+g=n∧i=.int .i64 q∧Aside ((∃ D:DataW Unit,wx.ownsMap Tryz.prog 9 (plainElem Tryz.prog 4) w.heap.size (onceL (xs.take q)).length D∧SeenD D (onceL (xs.take q)))∧SR (w.heap.size+1) wx out (onceL (xs.take q))∧Below w.heap.size w wx∧w.heap.size < wx.heap.size))
 case atStart=>exact ⟨0,by omega,rfl,Blk.Aside.intro ⟨⟨_,M0.out,SeenD.nil⟩,SR.nil _ _,B0.out,by simp⟩⟩
 case round =>
  obtain ⟨q,hq,rfl,HX⟩:=hrel
  obtain ⟨⟨D,hm,hD⟩,hO,hb,hlt0⟩:=HX.out
  have HO:=Hd hO
  have HM:=Hd hm
  have HD:=Hd hD
  have HBB:=Hd hb
  clear HX hO hb hm hD
  cases gk with
  | zero =>
    obtain rfl:q=n:=by omega
    have hE:Hid (SR (w.heap.size+1) wr u3 (onceL xs)):=Hd (by have:=HO.out;rwa [List.take_of_length_le (by rw [HA.out.1];omega)] at this)
    clear HO HM HD
    go_wp2_with fail
    go_ret
    exact ⟨_,rfl,hE.out.mono (Nat.le_succ _),HBB.out⟩
  | succ g =>
    have hqn:q < n:=by omega
    have hqn':(q:Int) < (n:Int):=by omega
    obtain ⟨s,hx⟩:∃ x,xs[q]? = some x:=⟨_,List.getElem?_eq_getElem (by rw [HA.out.1];omega)⟩
    obtain ⟨b1,o1,rfl,hl1,c1⟩:=HA.out.2 q s hx
    have c1:=(HBB.out.cell (p:=⟨b1,o1+q,none⟩) hl1).trans c1
    have hsb:=HS.out s (List.mem_of_getElem? hx)
    have hT:=Hd (once_take hx)
    have hkey:=WideMaps.keyOf_string_mk (P:=Tryz.prog) Tryz.underlying9 (s:=s) (by unfold maxLen;omega)
    have lk:=seen_look HM.out HD.out s (by unfold maxLen;omega)
    have hll:(onceL (xs.take q)).length≤q:=Nat.le_trans (once_len _) (by simp;omega)
    clear hx
    cases e:hasN (onceL (xs.take q)) s with
    | true =>
      rw [e] at lk
      have hE:Hid (onceL (xs.take (q+1))=onceL (xs.take q)):=Hd (by rw [hT.out,addN,if_pos e])
      clear hkey
      go_wp2_with fail
      go_roundg g
      case measure=>omega
      case rel=>exact ⟨q+1,by omega,by go_num,Blk.Aside.intro ⟨by rw [hE.out];exact ⟨D,HM.out,HD.out⟩,by rw [hE.out];exact HO.out,HBB.out,hlt0⟩⟩
    | false =>
      rw [e] at lk
      have hE:Hid (onceL (xs.take (q+1))=onceL (xs.take q)++[s]):=Hd (by rw [hT.out,addN,if_neg (by rw [e];decide)])
      obtain ⟨Ao,co,rfl,_⟩:=HO.out.strs
      have HMAX:(onceL (xs.take q)).length < maxLen:=by unfold maxLen;omega
      have hZ:=HZ.out
      have hso:=HBB.out.size
      go_wp2_with (first
       | (at_mapUpdate;refine wpList_mapUpdate_own _ rfl _ _ _ 123 rfl 9 4 (Maps.string_keyed Tryz.underlying9) Tryz.underlying123 _ w.heap.size (onceL (xs.take q)).length D rfl HM.out HMAX _ _ _ rfl rfl hkey (.lit (.bool true)) [] (plainElem_bool Tryz.underlying4 true) ?_;intro w1 hm1 hg1;have HM1:=Hd hm1;have HG1:=Hd hg1;have hs1:=hg1.size;have HR1:=Hd (SR.low (World.ownsRow.kept HO.out hg1 (.inr (fun e=>by have:=(World.ownsRow.lt HO.out _ e).1;omega))) (dbelow_new w1 (.cells #[.string s] 9)));clear hm1 hg1)
       | (at_builtin;refine wpList_append_lies _ rfl _ _ 32 rfl (w.heap.size+1) 9 i0 (.string ⟨#[]⟩) 1 16 Tryz.underlying32 hi hz0 hz1 hz2 rfl (by decide) _ (onceL (xs.take q)).length ((onceL (xs.take q)).map .string) rfl HR1.out _ 1 1 [.string s] rfl rfl (txt_new _ _ _ rfl) (by intro u hu;simp at hu;subst hu;rfl) (by decide) (by unfold maxLen;omega) (by omega) (by simp;omega) _ rfl ?_;intro g2 cap2 w2 hown2 hg2 hat2 hlt2;have HO2:=Hd hown2;have HG2:=Hd hg2;clear hown2 hg2 hat2))
      have hbV:∀ b,(Value.slice Ao (onceL (xs.take q)).length co).ownBlock=some b→w.heap.size+1≤b:=fun b hb=>HO.out.own b hb
      have B1:=Hd (below_grown (B:=w.heap.size) HBB.out HG1.out HBB.out.size (fun b hb=>by injection hb with hb;omega))
      have B2:=Hd (below_grown (B:=w.heap.size) (B1.out.alloc B1.out.size (.cells #[.string s] 9)) HG2.out (by simp;omega) (fun b hb=>by have:=hbV b hb;omega))
      have hs2:=HG2.out.size
      go_roundg g
      case measure=>omega
      case rel=>exact ⟨q+1,by omega,by go_num,Blk.Aside.intro ⟨⟨D.put (.string s.data.toList) (.lit (.bool true)),by rw [hE.out,List.length_append];exact (HM1.out.alloc _).kept HG2.out (fun e=>by have:=hbV _ e.symm;omega),by rw [hE.out];exact HD.out.put s⟩,by rw [hE.out];unfold SR;rw [List.length_append,List.map_append];exact HO2.out,B2.out,by simp at hs2;omega⟩⟩
end Go.Proofs.YtaekdfcpbepepaaGreatDoor
