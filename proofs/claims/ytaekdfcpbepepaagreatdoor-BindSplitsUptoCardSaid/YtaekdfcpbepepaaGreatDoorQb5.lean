/- defs.ownEach over FieldDef. (gen_each.py wrote it.) -/
import Derived.Test.YtaekdfcpbepepaaGreatDoorQb4
import Derived.Deep.DeepCutAuto
set_option maxRecDepth 100000
set_option maxHeartbeats 8000000
namespace Go.Proofs.YtaekdfcpbepepaaGreatDoor
open Go.RowKit
theorem eachF_at {w:World} {P:Nat→Prop} {K g:Nat} {l:List FieldT} {q:Nat} {x:FieldT} (h:RowAt encField 6 46 P K g l w) (hx:l[q]? = some x) :
  ∃ c0 c1 c2 c3 c4 c5,TS w (fun b=>OwnP P K w b∧b ≠ g) (encField x) [c0,c1,c2,c3,c4,c5]∧(w.cell? ⟨g,q*6,none⟩=some c0∧w.cell? ⟨g,q*6+1,none⟩=some c1∧w.cell? ⟨g,q*6+2,none⟩=some c2∧w.cell? ⟨g,q*6+3,none⟩=some c3∧w.cell? ⟨g,q*6+4,none⟩=some c4∧w.cell? ⟨g,q*6+5,none⟩=some c5)∧w.frozen? ⟨g,q*6,none⟩=false∧w.frozen? ⟨g,q*6+1,none⟩=false∧w.frozen? ⟨g,q*6+2,none⟩=false∧w.frozen? ⟨g,q*6+3,none⟩=false∧w.frozen? ⟨g,q*6+4,none⟩=false∧w.frozen? ⟨g,q*6+5,none⟩=false:=by
 obtain ⟨⟨cur,h1,h2⟩,h3⟩:=h
 obtain ⟨cs,h4,h5⟩:=h3 q x hx
 have hl:cs.length=6:=by rw [h4.len,len_fld]
 have hq:q < l.length:=(List.getElem?_eq_some_iff.1 hx).1
 match cs,hl with
 | [c0,c1,c2,c3,c4,c5],_=>exact ⟨c0,c1,c2,c3,c4,c5,h4,⟨h5 0 _ rfl,h5 1 _ rfl,h5 2 _ rfl,h5 3 _ rfl,h5 4 _ rfl,h5 5 _ rfl⟩,cells_frozen h1 _,cells_frozen h1 _,cells_frozen h1 _,cells_frozen h1 _,cells_frozen h1 _,cells_frozen h1 _⟩
theorem six_low' {w0 w:World} {B b o:Nat} {c0 c1 c2 c3 c4 c5:Value} (h:Below B w0 w) (hb:B≤b):Below B w0 ((((((w.setCell ⟨b,o,none⟩ c0).setCell ⟨b,o+1,none⟩ c1).setCell ⟨b,o+2,none⟩ c2).setCell ⟨b,o+3,none⟩ c3).setCell ⟨b,o+4,none⟩ c4).setCell ⟨b,o+5,none⟩ c5):=
 (((((h.setCell hb _).setCell hb _).setCell hb _).setCell hb _).setCell hb _).setCell hb _
def EachF (l:List FieldT) (P:Nat→Prop) (w:World) (e:Ending) (w':World):Prop:=∃ A c,e=.returned (.slice A l.length c)∧RowT w' (OwnP P w.heap.size w') (rowOf encField l) A∧Below w.heap.size w w'
theorem eachF_any (l:List FieldT) (A:Option Addr) (c:Nat) (w:World) (P:Nat→Prop) (hP:∀ b,P b→b < w.heap.size) (hz:l.length*96≤140737488355328) (hs:∀ x,x ∈ l→SlimF x) (hR:RowT w P (rowOf encField l) A) :
   Calls Tryz.prog 77 #[.slice A l.length c,.func (.func 43) #[] #[]] w (EachF l P w):=by
 have C:=Hd (clone_fld l A c w P hP hz hR)
 have hn:l.length≤9223372036854775807:=by omega
 clear hz hR
 by_cases hp:0 < l.length
 · go_enter Tryz.func77,Tryz.ntmps77
   go_wp2_with fail
   refine C.out.mono ?_
   rintro e w1 ⟨V,xs,rfl,h1,h2,h3⟩
   obtain ⟨g,c',rfl,hKg,hA⟩:=RowAt.start len_fld h1 h2 hP h3.size rfl hp
   have B1:=Hd h3
   have HA:=Hd hA
   clear h1 h2 h3 hA C
   go_wp2_with fail
   go_loopg [12] l.length (fun gk i wx=>∃ q:Nat,q+gk=l.length∧i=.int .i64 q∧Aside (RowAt encField 6 46 P w.heap.size g l wx∧Below w.heap.size w wx))
   case atStart=>exact ⟨0,by omega,rfl,Blk.Aside.intro ⟨HA.out,B1.out⟩⟩
   case round =>
    obtain ⟨q,hq,rfl,HX⟩:=hrel
    obtain ⟨hA,hb⟩:=HX.out
    have HAX:=Hd hA
    have HBB:=Hd hb
    clear HX hA hb HA
    cases gk with
    | zero =>
      obtain rfl:q=l.length:=by omega
      go_wp2_with fail
      go_ret
      exact ⟨some ⟨g,0,none⟩,c',rfl,HAX.out.row len_fld hKg,HBB.out⟩
    | succ gg =>
      have hqn:q < l.length:=by omega
      have hqn':(q:Int) < (l.length:Int):=by omega
      obtain ⟨x,hx⟩:∃ x,l[q]? = some x:=⟨_,List.getElem?_eq_getElem hqn⟩
      obtain ⟨c0,c1,c2,c3,c4,c5,hT,⟨g0,g1,g2,g3,g4,g5⟩,f0,f1,f2,f3,f4,f5⟩:=eachF_at HAX.out hx
      have hsl:=Hd (hs x (List.mem_of_getElem? hx))
      have HT:=Hd hT
      have HXX:=Hd hx
      have hgl:=HAX.out.lt
      have hso:=HBB.out.size
      obtain ⟨Ap,kp,Ad,kd,e,_⟩:=fld_cells hT
      simp only [List.cons.injEq,and_true] at e
      obtain ⟨rfl,rfl,rfl,rfl,rfl,rfl⟩:=e
      have hC:=Hd (fun o=>ownfld_any x (.string x.name) (.slice Ap x.params.length kp) (.string x.tn) (.int .i64 x.tl) (.int .i64 x.tm) (.slice Ad x.dirs.length kd) (wr.alloc o) (fun b=>OwnP P w.heap.size wr b∧b ≠ g) (fun b h=>Nat.lt_of_lt_of_le h.1.1 (dbelow_new wr o).size) hsl.out (TS.keep (fun b h=>⟨h,(dbelow_new wr o).block b h.1.1⟩) _ _ HT.out))
      clear hT hx f0 f1 f2 f3 f4 f5
      go_wp2_with fail
      refine (hC.out _).mono ?_
      rintro e w2 ⟨Ap3,kp3,Ad3,kd3,rfl,hT3,hb3⟩
      have hb2:=(dbelow_new wr (.cells #[.string x.name,.slice Ap x.params.length kp,.string x.tn,.int .i64 x.tl,.int .i64 x.tm,.slice Ad x.dirs.length kd] 46)).trans (hb3.mono (by simp))
      have A2':=Hd (HAX.out.low hb2)
      have B2:=Hd (HBB.out.trans (hb2.mono hso))
      have T2:=Hd (TS.keep (P':=fun b=>OwnP P w.heap.size w2 b∧b ≠ g) (fun b h=>⟨by
       rcases h.2 with h1|h1
       · exact ⟨⟨h.1,h1.1.2⟩,h1.2⟩
       · have h4:wr.heap.size+1≤b:=by simpa using h1
         exact ⟨⟨h.1,.inr (by omega)⟩,by omega⟩,rfl⟩) _ _ hT3)
      obtain ⟨e0,e1,e2,e3,e4,e5,_,⟨z0,z1,z2,z3,z4,z5⟩,y0,y1,y2,y3,y4,y5⟩:=eachF_at A2'.out HXX.out
      have hset:=A2'.out.set len_fld HXX.out T2.out
      clear hT3 hb3 hb2 hC g0 g1 g2 g3 g4 g5
      obtain ⟨O,hO⟩:∃ O,q*6=O:=⟨_,rfl⟩
      rw [hO] at z0 z1 z2 z3 z4 z5 y0 y1 y2 y3 y4 y5 hset
      have HSet:=Hd hset
      clear hset
      go_wp2_with fail
      go_roundg gg
      case measure=>omega
      case rel=>exact ⟨q+1,by omega,by go_num,Blk.Aside.intro ⟨HSet.out,six_low' B2.out hKg⟩⟩
 · have h0:l.length=0:=by omega
   have HL:=Hd h0
   obtain rfl:l=[]:=List.eq_nil_of_length_eq_zero h0
   clear h0 hp hs hn
   go_enter Tryz.func77,Tryz.ntmps77
   go_wp2_with fail
   refine C.out.mono ?_
   rintro e w1 h1
   obtain ⟨A1,c1,rfl,_,hb1⟩:=cloned_row h1 rfl hP
   have B1:=Hd hb1
   clear h1 hb1 C
   go_wp2_with fail
   go_loopg [12] 0 (fun gk i wx=>gk=0∧i=.int .i64 0∧Below w.heap.size w wx)
   case atStart=>exact ⟨rfl,rfl,B1.out⟩
   case round =>
    obtain ⟨rfl,rfl,hb⟩:=hrel
    have HBB:=Hd hb
    clear hb
    go_wp2_with fail
    go_ret
    exact ⟨A1,c1,rfl,by rw [rowOf];unfold RowT;trivial,HBB.out⟩
theorem defn_ts {w:World} {P:Nat→Prop} {x:DefnT} {Af Ax Ap Am:Option Addr} {kf kx kp km:Nat} (h0:x.name.size≤9223372036854775807) (l1:x.faces.length≤9223372036854775807) (l2:x.fields.length≤9223372036854775807) (l3:x.parts.length≤9223372036854775807) (l4:x.params.length≤9223372036854775807)
  (h1:RowT w P (rowOf encStr x.faces) Af) (h2:RowT w P (rowOf encField x.fields) Ax) (h3:RowT w P (rowOf encStr x.parts) Ap) (h4:RowT w P (rowOf encVar x.params) Am) :
  TS w P (encDefn x) [.int .i64 x.kind,.string x.name,.slice Af x.faces.length kf,.slice Ax x.fields.length kx,.slice Ap x.parts.length kp,.slice Am x.params.length km]:=by
 simp only [encDefn,TS,TP]
 exact ⟨_,_,rfl,⟨rfl,trivial⟩,_,_,rfl,⟨rfl,h0⟩,_,_,rfl,⟨Af,kf,by rw [rowOf_len],by rw [rowOf_len];exact l1,h1⟩,_,_,rfl,⟨Ax,kx,by rw [rowOf_len],by rw [rowOf_len];exact l2,h2⟩,_,_,rfl,⟨Ap,kp,by rw [rowOf_len],by rw [rowOf_len];exact l3,h3⟩,_,_,rfl,⟨Am,km,by rw [rowOf_len],by rw [rowOf_len];exact l4,h4⟩,rfl⟩
theorem ret_dfn {R:Ending→World→Prop} {fn:Func} {a:Act} {W:World} {c0 c1 c2 c3 c4 c5:Value} {p b:Nat} (hf:fn.results=#[.cell p 37]) (h2:a.tmps.getD p undef=.pointer (some ⟨b,0,none⟩)) (hd:a.defers=[])
  (hc:W.heap[b]? = some (.cells #[c0,c1,c2,c3,c4,c5] 37 (0,0))) (hR:R (.returned (.agg #[c0,c1,c2,c3,c4,c5])) W):bodyPost Tryz.prog fn R .ret a W:=by
 have hl:(loadVar 37 ⟨b,0,none⟩).run Tryz.prog W=.ok (.agg #[c0,c1,c2,c3,c4,c5]) W:=
  run_loadVar_row W b 37 37 #[c0,c1,c2,c3,c4,c5] (0,0) _ hc Tryz.underlying37 rfl (by kernel_rfl)
 refine bodyPost_ret ?_ hd hR
 have h2':a.tmps[p]?.getD undef=.pointer (some ⟨b,0,none⟩):=by rw [← h2];simp
 simp [results,hf,h2',asAddr,hl]
def OwnDf (x:DefnT) (P:Nat→Prop) (w:World) (e:Ending) (w':World):Prop:=∃ Af kf Ax kx Ap kp Am km,e=.returned (.agg #[.int .i64 x.kind,.string x.name,.slice Af x.faces.length kf,.slice Ax x.fields.length kx,.slice Ap x.parts.length kp,.slice Am x.params.length km]) ∧
 TS w' (OwnP P w.heap.size w') (encDefn x) [.int .i64 x.kind,.string x.name,.slice Af x.faces.length kf,.slice Ax x.fields.length kx,.slice Ap x.parts.length kp,.slice Am x.params.length km]∧Below w.heap.size w w'
structure BoxD (w:World) (P:Nat→Prop) (x:DefnT) (c2 c3 c4 c5:Value) (W:World):Prop where
 low:Below w.heap.size w W
 size:w.heap.size+2≤W.heap.size
 box:W.heap[w.heap.size]? = some (.cells #[.int .i64 x.kind,.string x.name,c2,c3,c4,c5] 37 (0,0))
 res:W.heap[w.heap.size+1]? = some (.cells #[.int .i64 0,.string ⟨#[]⟩,.slice none 0 0,.slice none 0 0,.slice none 0 0,.slice none 0 0] 37 (0,0))
theorem BoxD.next {w W W':World} {P:Nat→Prop} {x:DefnT} {c2 c3 c4 c5:Value} (h:BoxD w P x c2 c3 c4 c5 W) (hb:Below W.heap.size W W'):BoxD w P x c2 c3 c4 c5 W':=by
 have hs:=h.size
 exact ⟨h.low.trans (hb.mono h.low.size),Nat.le_trans h.size hb.size,(hb.block _ (by omega)).trans h.box,(hb.block _ (by omega)).trans h.res⟩
theorem BoxD.set2 {w W:World} {P:Nat→Prop} {x:DefnT} {c2 c3 c4 c5:Value} (h:BoxD w P x c2 c3 c4 c5 W) (v:Value):BoxD w P x v c3 c4 c5 (W.setCell ⟨w.heap.size,2,none⟩ v):=
 ⟨h.low.setCell (p:=⟨w.heap.size,2,none⟩) (Nat.le_refl _) v,by simpa [World.setCell] using h.size,by simp [World.setCell,Array.getElem?_modify,h.box],(Below.heap_setCell _ _ _ _ (Nat.succ_ne_self _)).trans h.res⟩
theorem BoxD.set3 {w W:World} {P:Nat→Prop} {x:DefnT} {c2 c3 c4 c5:Value} (h:BoxD w P x c2 c3 c4 c5 W) (v:Value):BoxD w P x c2 v c4 c5 (W.setCell ⟨w.heap.size,3,none⟩ v):=
 ⟨h.low.setCell (p:=⟨w.heap.size,3,none⟩) (Nat.le_refl _) v,by simpa [World.setCell] using h.size,by simp [World.setCell,Array.getElem?_modify,h.box],(Below.heap_setCell _ _ _ _ (Nat.succ_ne_self _)).trans h.res⟩
theorem BoxD.set4 {w W:World} {P:Nat→Prop} {x:DefnT} {c2 c3 c4 c5:Value} (h:BoxD w P x c2 c3 c4 c5 W) (v:Value):BoxD w P x c2 c3 v c5 (W.setCell ⟨w.heap.size,4,none⟩ v):=
 ⟨h.low.setCell (p:=⟨w.heap.size,4,none⟩) (Nat.le_refl _) v,by simpa [World.setCell] using h.size,by simp [World.setCell,Array.getElem?_modify,h.box],(Below.heap_setCell _ _ _ _ (Nat.succ_ne_self _)).trans h.res⟩
theorem BoxD.set5 {w W:World} {P:Nat→Prop} {x:DefnT} {c2 c3 c4 c5:Value} (h:BoxD w P x c2 c3 c4 c5 W) (v:Value):BoxD w P x c2 c3 c4 v (W.setCell ⟨w.heap.size,5,none⟩ v):=
 ⟨h.low.setCell (p:=⟨w.heap.size,5,none⟩) (Nat.le_refl _) v,by simpa [World.setCell] using h.size,by simp [World.setCell,Array.getElem?_modify,h.box],(Below.heap_setCell _ _ _ _ (Nat.succ_ne_self _)).trans h.res⟩
theorem RowT.boxed {P:Nat→Prop} {w W:World} {l:TrL} {A:Option Addr} {j:Nat} {v:Value} (hP:∀ b,P b→b < w.heap.size) (h:RowT W (OwnP P (w.heap.size+2) W) l A):RowT (W.setCell ⟨w.heap.size,j,none⟩ v) (OwnP P (w.heap.size+2) (W.setCell ⟨w.heap.size,j,none⟩ v)) l A:=
 h.own (by simp [World.setCell]) (Nat.le_refl _) (fun b hb=>Below.heap_setCell _ _ _ _ (hb.ne (g:=w.heap.size) hP (Nat.lt_add_of_pos_right (by decide))))
theorem RowT.after {P:Nat→Prop} {K:Nat} {w W:World} {l:TrL} {A:Option Addr} (h:RowT w (OwnP P K w) l A) (hb:Below w.heap.size w W):RowT W (OwnP P K W) l A:=h.own hb.size (Nat.le_refl _) (fun b hx=>hb.block b hx.1)
theorem owndf_any (x:DefnT) (c0 c1 c2 c3 c4 c5:Value) (w:World) (P:Nat→Prop) (hP:∀ b,P b→b < w.heap.size) (hz:SlimD x) (hT:TS w P (encDefn x) [c0,c1,c2,c3,c4,c5]) :
  Calls Tryz.prog 39 #[.agg #[c0,c1,c2,c3,c4,c5]] w (OwnDf x P w):=by
 obtain ⟨Af,kf,Ax,kx,Ap,kp,Am,km,e,hn,⟨l1,h1⟩,⟨l2,h2⟩,⟨l3,h3⟩,l4,h4⟩:=defn_cells hT
 simp only [List.cons.injEq,and_true] at e
 obtain ⟨rfl,rfl,rfl,rfl,rfl,rfl⟩:=e
 obtain ⟨kd,n,fs,fl,pt,pm⟩:=x
 have HNL:=Hd (And.intro hn (And.intro l1 (And.intro l2 (And.intro l3 l4))))
 have C1:=Hd (fun (wx:World) (hb:Below w.heap.size w wx)=>clone_str fs Af kf wx P (fun b h=>Nat.lt_of_lt_of_le (hP b h) hb.size) hz.1 (RowT.keep (fun b h=>⟨h,hb.block b (hP b h)⟩) _ _ h1))
 have C2:=Hd (fun (wx:World) (hb:Below w.heap.size w wx)=>eachF_any fl Ax kx wx P (fun b h=>Nat.lt_of_lt_of_le (hP b h) hb.size) hz.2.1 hz.2.2.2.2 (RowT.keep (fun b h=>⟨h,hb.block b (hP b h)⟩) _ _ h2))
 have C3:=Hd (fun (wx:World) (hb:Below w.heap.size w wx)=>clone_str pt Ap kp wx P (fun b h=>Nat.lt_of_lt_of_le (hP b h) hb.size) hz.2.2.1 (RowT.keep (fun b h=>⟨h,hb.block b (hP b h)⟩) _ _ h3))
 have C4:=Hd (fun (wx:World) (hb:Below w.heap.size w wx)=>clone_par pm Am km wx P (fun b h=>Nat.lt_of_lt_of_le (hP b h) hb.size) hz.2.2.2.1 (RowT.keep (fun b h=>⟨h,hb.block b (hP b h)⟩) _ _ h4))
 have X0:=Hd (show BoxD w P ⟨kd,n,fs,fl,pt,pm⟩ _ _ _ _ _ from ⟨tbl w _ _,by rw [two_size];exact Nat.le_refl _,(Below.heap_alloc (w.alloc (.cells #[.int .i64 kd,.string n,.slice Af fs.length kf,.slice Ax fl.length kx,.slice Ap pt.length kp,.slice Am pm.length km] 37)) (.cells #[.int .i64 0,.string ⟨#[]⟩,.slice none 0 0,.slice none 0 0,.slice none 0 0,.slice none 0 0] 37) w.heap.size (by simp)).trans (heap_alloc_new w (.cells #[.int .i64 kd,.string n,.slice Af fs.length kf,.slice Ax fl.length kx,.slice Ap pt.length kp,.slice Am pm.length km] 37)),heap_two w _ _⟩)
 clear hz hT hn h1 h2 h3 h4 l1 l2 l3 l4
 go_enter Tryz.func39,Tryz.ntmps39
 go_wp2_with fail
 refine (C1.out _ X0.out.low).mono ?_
 rintro e w1 h1
 obtain ⟨A1,k1,rfl,hr1,hb1⟩:=cloned_row h1 (rowOf_len _ _) (fun b h=>Nat.lt_of_lt_of_le (hP b h) X0.out.low.size)
 rw [two_size] at hr1
 have X1:=Hd (X0.out.next hb1)
 have R1:=Hd hr1
 obtain ⟨⟨y0,y1,y2,y3,y4,y5⟩,v0,v1,v2,v3,v4,v5⟩:=six_cells X1.out.box
 clear h1 hr1 hb1 X0 C1
 go_upto_region 2 with fail
 clear y0 y1 y2 y3 y4 y5 v0 v1 v2 v3 v4 v5
 have X2:=Hd (X1.out.set2 (.slice A1 fs.length k1))
 have R2:=Hd (R1.out.boxed hP (j:=2) (v:=.slice A1 fs.length k1))
 generalize w1.setCell ⟨w.heap.size,2,none⟩ (.slice A1 fs.length k1)=wa at X2 R2 ⊢
 clear X1 R1
 obtain ⟨⟨y0,y1,y2,y3,y4,y5⟩,v0,v1,v2,v3,v4,v5⟩:=six_cells X2.out.box
 go_wp2_with fail
 refine (C2.out _ X2.out.low).mono ?_
 rintro e w2 ⟨A2,k2,rfl,hr2,hb2⟩
 have X3:=Hd (X2.out.next hb2)
 have R3:=Hd (R2.out.after hb2)
 have Q3:=Hd (hr2.own (w':=w2) (K':=w.heap.size+2) (Nat.le_refl _) X2.out.size (fun b hb=>rfl))
 clear y0 y1 y2 y3 y4 y5 v0 v1 v2 v3 v4 v5 hr2 hb2 X2 R2 C2
 obtain ⟨⟨y0,y1,y2,y3,y4,y5⟩,v0,v1,v2,v3,v4,v5⟩:=six_cells X3.out.box
 go_upto_region 3 with fail
 clear y0 y1 y2 y3 y4 y5 v0 v1 v2 v3 v4 v5
 have X4:=Hd (X3.out.set3 (.slice A2 fl.length k2))
 have R4:=Hd (R3.out.boxed hP (j:=3) (v:=.slice A2 fl.length k2))
 have Q4:=Hd (Q3.out.boxed hP (j:=3) (v:=.slice A2 fl.length k2))
 generalize w2.setCell ⟨w.heap.size,3,none⟩ (.slice A2 fl.length k2)=wb at X4 R4 Q4 ⊢
 clear X3 R3 Q3
 obtain ⟨⟨y0,y1,y2,y3,y4,y5⟩,v0,v1,v2,v3,v4,v5⟩:=six_cells X4.out.box
 go_wp2_with fail
 refine (C3.out _ X4.out.low).mono ?_
 rintro e w3 h3
 obtain ⟨A3,k3,rfl,hr3,hb3⟩:=cloned_row h3 (rowOf_len _ _) (fun b h=>Nat.lt_of_lt_of_le (hP b h) X4.out.low.size)
 have X5:=Hd (X4.out.next hb3)
 have R5:=Hd (R4.out.after hb3)
 have Q5:=Hd (Q4.out.after hb3)
 have S5:=Hd (hr3.own (w':=w3) (K':=w.heap.size+2) (Nat.le_refl _) X4.out.size (fun b hb=>rfl))
 clear y0 y1 y2 y3 y4 y5 v0 v1 v2 v3 v4 v5 h3 hr3 hb3 X4 R4 Q4 C3
 obtain ⟨⟨y0,y1,y2,y3,y4,y5⟩,v0,v1,v2,v3,v4,v5⟩:=six_cells X5.out.box
 go_upto_region 4 with fail
 clear y0 y1 y2 y3 y4 y5 v0 v1 v2 v3 v4 v5
 have X6:=Hd (X5.out.set4 (.slice A3 pt.length k3))
 have R6:=Hd (R5.out.boxed hP (j:=4) (v:=.slice A3 pt.length k3))
 have Q6:=Hd (Q5.out.boxed hP (j:=4) (v:=.slice A3 pt.length k3))
 have S6:=Hd (S5.out.boxed hP (j:=4) (v:=.slice A3 pt.length k3))
 generalize w3.setCell ⟨w.heap.size,4,none⟩ (.slice A3 pt.length k3)=wc at X6 R6 Q6 S6 ⊢
 clear X5 R5 Q5 S5
 obtain ⟨⟨y0,y1,y2,y3,y4,y5⟩,v0,v1,v2,v3,v4,v5⟩:=six_cells X6.out.box
 go_wp2_with fail
 refine (C4.out _ X6.out.low).mono ?_
 rintro e w4 h4
 obtain ⟨A4,k4,rfl,hr4,hb4⟩:=cloned_row h4 (rowOf_len _ _) (fun b h=>Nat.lt_of_lt_of_le (hP b h) X6.out.low.size)
 have X7:=Hd (X6.out.next hb4)
 have R7:=Hd (R6.out.after hb4)
 have Q7:=Hd (Q6.out.after hb4)
 have S7:=Hd (S6.out.after hb4)
 have U7:=Hd (hr4.own (w':=w4) (K':=w.heap.size+2) (Nat.le_refl _) X6.out.size (fun b hb=>rfl))
 clear y0 y1 y2 y3 y4 y5 v0 v1 v2 v3 v4 v5 h4 hr4 hb4 X6 R6 Q6 S6 C4
 obtain ⟨⟨y0,y1,y2,y3,y4,y5⟩,v0,v1,v2,v3,v4,v5⟩:=six_cells X7.out.box
 go_upto_region 5 with fail
 clear y0 y1 y2 y3 y4 y5 v0 v1 v2 v3 v4 v5
 have X8:=Hd (X7.out.set5 (.slice A4 pm.length k4))
 have R8:=Hd (R7.out.boxed hP (j:=5) (v:=.slice A4 pm.length k4))
 have Q8:=Hd (Q7.out.boxed hP (j:=5) (v:=.slice A4 pm.length k4))
 have S8:=Hd (S7.out.boxed hP (j:=5) (v:=.slice A4 pm.length k4))
 have U8:=Hd (U7.out.boxed hP (j:=5) (v:=.slice A4 pm.length k4))
 generalize w4.setCell ⟨w.heap.size,5,none⟩ (.slice A4 pm.length k4)=wd at X8 R8 Q8 S8 U8 ⊢
 clear X7 R7 Q7 S7 U7
 obtain ⟨⟨y0,y1,y2,y3,y4,y5⟩,_⟩:=six_cells X8.out.box
 obtain ⟨⟨z0,z1,z2,z3,z4,z5⟩,v0,v1,v2,v3,v4,v5⟩:=six_cells X8.out.res
 go_wp2_with fail
 refine ret_dfn rfl rfl rfl (six_set X8.out.res) ?_
 have hne:∀ b,OwnP P (w.heap.size+2) wd b→b ≠ w.heap.size+1:=fun b hb=>hb.ne (fun b h=>Nat.lt_succ_of_lt (hP b h)) (by omega)
 exact ⟨A1,k1,A2,k2,A3,k3,A4,k4,rfl,defn_ts HNL.out.1 HNL.out.2.1 HNL.out.2.2.1 HNL.out.2.2.2.1 HNL.out.2.2.2.2 (R8.out.own (by simp [World.setCell]) (by omega) (fun b hb=>six_heap (hne b hb))) (Q8.out.own (by simp [World.setCell]) (by omega) (fun b hb=>six_heap (hne b hb))) (S8.out.own (by simp [World.setCell]) (by omega) (fun b hb=>six_heap (hne b hb))) (U8.out.own (by simp [World.setCell]) (by omega) (fun b hb=>six_heap (hne b hb))),six_low (b:=w.heap.size+1) X8.out.low (Nat.le_succ _)⟩
def letB (c:Int):Bool:=decide ((97≤c∧c≤122)∨(65≤c∧c≤90)∨c=95)
def digB (c:Int):Bool:=decide (48≤c∧c≤57)
def halfB (c:Int):Bool:=decide (55296≤c∧c≤57343)
def pairB (a b:Int):Bool:=decide (55296≤a∧a < 56320∧56320≤b∧b≤57343)
def tailB (l:List UInt8):Bool:=l.all fun b=>letB (b.toNat:Int) || digB (b.toNat:Int)
def nameB:List UInt8→Bool
 | []=>false
 | b :: t=>letB (b.toNat:Int) && tailB t
theorem tailB_append (l m:List UInt8):tailB (l++m)=(tailB l && tailB m):=by simp [tailB]
theorem nameB_append (l m:List UInt8) (h:l ≠ []):nameB (l++m)=(nameB l && tailB m):=by
 cases l with
 | nil=>exact absurd rfl h
 | cons b t=>simp [nameB,tailB_append,Bool.and_assoc]
theorem take_snoc (s:ByteArray) (k:Nat) (h:k < s.size):s.data.toList.take (k+1)=s.data.toList.take k++[s[k]]:=by
 rw [List.take_succ_eq_append_getElem (by simpa using h)];rfl
def nameTo (s:ByteArray) (k:Nat):Prop:=k=0∨nameB (s.data.toList.take k)=true
theorem take_ne (s:ByteArray) (k:Nat) (h0:k ≠ 0) (h:k < s.size):s.data.toList.take k ≠ []:=by
 have:s.data.toList.length=s.size:=Array.length_toList
 intro e
 have:=congrArg List.length e
 simp only [List.length_take,List.length_nil] at this
 omega
theorem nameTo_letter {s:ByteArray} {k:Nat} (h:k < s.size) (ht:nameTo s k) (hl:letB (s[k].toNat:Int)=true):nameTo s (k+1):=by
 refine .inr ?_
 rw [take_snoc s k h]
 rcases ht with h0|ht
 · subst h0;simp [nameB,tailB,hl]
 · rw [nameB_append _ _ (by intro e;rw [e] at ht;cases ht),ht];simp [tailB,hl]
theorem nameTo_digit {s:ByteArray} {k:Nat} (h:k < s.size) (h0:k ≠ 0) (ht:nameTo s k) (hl:digB (s[k].toNat:Int)=true):nameTo s (k+1):=by
 refine .inr ?_
 rw [take_snoc s k h]
 rcases ht with h0'|ht
 · exact absurd h0' h0
 · rw [nameB_append _ _ (by intro e;rw [e] at ht;cases ht),ht];simp [tailB,hl]
theorem nameB_split (s:ByteArray) (k:Nat) (h:k < s.size):s.data.toList=s.data.toList.take k++s[k] :: s.data.toList.drop (k+1):=by
 have e:=(List.take_append_drop (k+1) s.data.toList).symm
 rw [take_snoc s k h,List.append_assoc] at e
 exact e
theorem name_stop0 {s:ByteArray} (h:0 < s.size) (hl:letB (s[0].toNat:Int)=false):nameB s.data.toList=false:=by
 rw [nameB_split s 0 h];simp [nameB,hl]
theorem name_stop {s:ByteArray} {k:Nat} (h:k < s.size) (h0:k ≠ 0) (hl:letB (s[k].toNat:Int)=false) (hd:digB (s[k].toNat:Int)=false):nameB s.data.toList=false:=by
 rw [nameB_split s k h,nameB_append _ _ (take_ne s k h0 h)]
 simp [tailB,hl,hd]
theorem name_done {s:ByteArray} (ht:nameTo s s.size):nameB s.data.toList = !s.toList.isEmpty:=by
 have hl:s.data.toList.length=s.size:=Array.length_toList
 have e:s.toList=s.data.toList:=Lib.toList_data s
 rw [e]
 rcases ht with h0|ht
 · have:s.data.toList=[]:=List.eq_nil_of_length_eq_zero (by omega)
   rw [this];rfl
 · rw [← hl,List.take_length] at ht
   rw [ht]
   cases h:s.data.toList with
   | nil=>rw [h] at ht;cases ht
   | cons _ _=>rfl
theorem Aside.intro {p:Prop} (h:p):Aside p:=h
theorem ret_bool {a b:Bool} (h:a=b):Ending.returned (.bool a)=.returned (.bool b):=by rw [h]
theorem ret_boolw {a b:Bool} {w:World} (h:a=true ↔ b=true):Ending.returned (.bool a)=.returned (.bool b)∧w=w:=by rw [Bool.eq_iff_iff.2 h];exact ⟨rfl,rfl⟩
theorem letter_any (c:Int) (w:World):Calls Tryz.prog 36 #[.int .u8 c] w fun e w'=>e=.returned (.bool (letB c))∧w=w':=by
 go_enter Tryz.func36,Tryz.ntmps36
 go_wp2
 all_goals go_ret
 all_goals (refine ret_boolw ?_;simp [letB];try omega)
theorem digit_any (c:Int) (w:World):Calls Tryz.prog 37 #[.int .u8 c] w fun e w'=>e=.returned (.bool (digB c))∧w=w':=by
 go_enter Tryz.func37,Tryz.ntmps37
 go_wp2
 all_goals go_ret
 all_goals (refine ret_boolw ?_;simp [digB];try omega)
theorem half_any (c:Int) (w:World):Calls Tryz.prog 240 #[.int .i64 c] w fun e w'=>e=.returned (.bool (halfB c))∧w=w':=by
 go_enter Tryz.func240,Tryz.ntmps240
 go_wp2
 all_goals go_ret
 all_goals (refine ret_boolw ?_;simp [halfB];try omega)
theorem name_any (s:ByteArray) (w:World) (hs:s.size≤9223372036854775807):Calls Tryz.prog 17 #[.string s] w fun e w'=>e=.returned (.bool (nameB s.data.toList))∧w=w':=by
 go_enter Tryz.func17,Tryz.ntmps17
 go_wp2
 go_loop [6] (fun i=>∃ k:Nat,k≤s.size∧i=.int .i64 k∧nameTo s k) (fun i=>s.size - (intOf i).toNat)
 case atStart=>exact ⟨0,Nat.zero_le _,rfl,.inl rfl⟩
 case round =>
  obtain ⟨k,hk,rfl,H⟩:=hrel
  by_cases hlt:k < s.size
  · cases hl:letB (s[k].toNat:Int)
    · by_cases h0:k=0
      · have hst:=Aside.intro (name_stop0 (s:=s) (by omega) (by subst h0;exact hl))
        have e0:((k:Int) == 0)=true:=by simp [h0]
        clear h0 H
        go_wp2_with (first
          | (go_at_call 36;refine (letter_any _ _).mono ?_;rintro e w' ⟨rfl,rfl⟩)
          | (go_at_call 37;refine (digit_any _ _).mono ?_;rintro e w' ⟨rfl,rfl⟩))
        go_ret
        exact ⟨ret_bool hst.out.symm,rfl⟩
      · have e0:((k:Int) == 0)=false:=by simp [h0]
        cases hd:digB (s[k].toNat:Int)
        · have hst:=Aside.intro (name_stop (s:=s) hlt h0 hl hd)
          clear h0 H
          go_wp2_with (first
           | (go_at_call 36;refine (letter_any _ _).mono ?_;rintro e w' ⟨rfl,rfl⟩)
           | (go_at_call 37;refine (digit_any _ _).mono ?_;rintro e w' ⟨rfl,rfl⟩))
          go_ret
          exact ⟨ret_bool hst.out.symm,rfl⟩
        · have hst:=Aside.intro (nameTo_digit (s:=s) hlt h0 H hd)
          clear h0 H
          go_wp2_with (first
           | (go_at_call 36;refine (letter_any _ _).mono ?_;rintro e w' ⟨rfl,rfl⟩)
           | (go_at_call 37;refine (digit_any _ _).mono ?_;rintro e w' ⟨rfl,rfl⟩))
          go_round
          case rel=>exact ⟨k+1,by omega,by go_num,hst.out⟩
          case measure=>simp [intOf];omega
    · have hst:=Aside.intro (nameTo_letter (s:=s) hlt H hl)
      clear H
      go_wp2_with (first
        | (go_at_call 36;refine (letter_any _ _).mono ?_;rintro e w' ⟨rfl,rfl⟩)
        | (go_at_call 37;refine (digit_any _ _).mono ?_;rintro e w' ⟨rfl,rfl⟩))
      go_round
      case rel=>exact ⟨k+1,by omega,by go_num,hst.out⟩
      case measure=>simp [intOf];omega
  · obtain rfl:k=s.size:=by omega
    have hst:=Aside.intro (name_done H)
    clear H hk
    go_wp2
    go_ret
    exact ⟨ret_bool hst.out.symm,rfl⟩
def rightT (n:List UInt8) (l m:Int):Bool:=nameB n && (decide (0≤l) && (decide (l≤4) && (decide (0≤m) && decide (m < 2 ^ (l.toNat+1)))))
theorem below_new {w:World} {cs:Array Value} {t:TypeId} : Below w.heap.size w (w.alloc (.cells cs t)):=(Below.refl _ _).alloc (Nat.le_refl _) _
theorem bdraw {B:Nat} {a w:World} (h:Below B a w) (n:Nat):Below B a (w.drewN n):=⟨h.os,h.tape,h.output,h.size,h.block⟩
theorem ret_bb {a b:Bool} (h:a=b):Ending.returned (.bool a)=.returned (.bool b):=by rw [h]
theorem right_true {n:List UInt8} {l m:Int} (h:rightT n l m=true):nameB n=true∧0≤l∧l≤4∧0≤m∧m < 2 ^ (l.toNat+1):=by
 simpa [rightT] using h
theorem right_small {n:List UInt8} {l m:Int} (h:rightT n l m=true):0≤l∧l≤4∧0≤m∧m < 32:=by
 obtain ⟨_,h1,h2,h3,h4⟩:=right_true h
 refine ⟨h1,h2,h3,?_⟩
 have:l=0∨l=1∨l=2∨l=3∨l=4:=by omega
 rcases this with rfl|rfl|rfl|rfl|rfl<;>simp at h4<;>omega
theorem right_of {n:List UInt8} {l m:Int} (hn:nameB n=true) (h1:0≤l) (h2:l≤4) (h3:0≤m) (h4:m < 2 ^ (l.toNat+1)):rightT n l m=true:=by
 simp [rightT,hn,h1,h2,h3,h4]
theorem five {l:Int} (h0:0≤l) (h4:l≤4):l=0∨l=1∨l=2∨l=3∨l=4:=by omega
theorem wright_any (n:ByteArray) (l m:Int) (w:World) (hn:n.size≤9223372036854775807):Calls Tryz.prog 44 #[.agg #[.string n,.int .i64 l,.int .i64 m]] w fun e w'=>e=.returned (.bool (rightT n.data.toList l m))∧Below w.heap.size w w':=by
 have HN:=fun w=>Hd (name_any n w (by omega))
 have HB:=Hd (below_new (w:=w) (cs:=#[.string n,.int .i64 l,.int .i64 m]) (t:=43))
 cases hb:nameB n.data.toList
 · have hr:Hid (rightT n.data.toList l m=false):=Hd (by simp [rightT,hb])
   rw [hb] at HN
   clear hb
   go_enter Tryz.func44,Tryz.ntmps44
   go_wp2
   go_quiet (exact (HN _).out.mono fun _ _ h=>⟨h.1,_,h.2.symm⟩)
   go_wp2
   go_ret
   exact ⟨ret_bb hr.out.symm,bdraw HB.out _⟩
 · rw [hb] at HN
   have hb':=Hd hb
   clear hb
   by_cases h1:0≤l
   · by_cases h2:l≤4
     · by_cases h3:0≤m
       · have t1:decide ((0:Int)≤m)=true:=by simpa using h3
         rcases five h1 h2 with rfl|rfl|rfl|rfl|rfl
         · by_cases h4:m < 2
           · have hr:Hid (rightT n.data.toList 0 m=true):=Hd (right_of hb'.out (by omega) (by omega) h3 (by simpa using h4))
             have t2:decide (m < 2)=true:=by simpa using h4
             go_enter Tryz.func44,Tryz.ntmps44
             go_wp2
             go_quiet (exact (HN _).out.mono fun _ _ h=>⟨h.1,_,h.2.symm⟩)
             go_wp2
             go_ret
             exact ⟨ret_bb hr.out.symm,bdraw HB.out _⟩
           · have hr:Hid (rightT n.data.toList 0 m=false):=Hd (by simp [rightT];intro _ _;simp at h4;omega)
             have t2:decide (m < 2)=false:=by simpa using h4
             go_enter Tryz.func44,Tryz.ntmps44
             go_wp2
             go_quiet (exact (HN _).out.mono fun _ _ h=>⟨h.1,_,h.2.symm⟩)
             go_wp2
             go_ret
             exact ⟨ret_bb hr.out.symm,bdraw HB.out _⟩
         · by_cases h4:m < 4
           · have hr:Hid (rightT n.data.toList 1 m=true):=Hd (right_of hb'.out (by omega) (by omega) h3 (by simpa using h4))
             have t2:decide (m < 4)=true:=by simpa using h4
             go_enter Tryz.func44,Tryz.ntmps44
             go_wp2
             go_quiet (exact (HN _).out.mono fun _ _ h=>⟨h.1,_,h.2.symm⟩)
             go_wp2
             go_ret
             exact ⟨ret_bb hr.out.symm,bdraw HB.out _⟩
           · have hr:Hid (rightT n.data.toList 1 m=false):=Hd (by simp [rightT];intro _ _;simp at h4;omega)
             have t2:decide (m < 4)=false:=by simpa using h4
             go_enter Tryz.func44,Tryz.ntmps44
             go_wp2
             go_quiet (exact (HN _).out.mono fun _ _ h=>⟨h.1,_,h.2.symm⟩)
             go_wp2
             go_ret
             exact ⟨ret_bb hr.out.symm,bdraw HB.out _⟩
         · by_cases h4:m < 8
           · have hr:Hid (rightT n.data.toList 2 m=true):=Hd (right_of hb'.out (by omega) (by omega) h3 (by simpa using h4))
             have t2:decide (m < 8)=true:=by simpa using h4
             go_enter Tryz.func44,Tryz.ntmps44
             go_wp2
             go_quiet (exact (HN _).out.mono fun _ _ h=>⟨h.1,_,h.2.symm⟩)
             go_wp2
             go_ret
             exact ⟨ret_bb hr.out.symm,bdraw HB.out _⟩
           · have hr:Hid (rightT n.data.toList 2 m=false):=Hd (by simp [rightT];intro _ _;simp at h4;omega)
             have t2:decide (m < 8)=false:=by simpa using h4
             go_enter Tryz.func44,Tryz.ntmps44
             go_wp2
             go_quiet (exact (HN _).out.mono fun _ _ h=>⟨h.1,_,h.2.symm⟩)
             go_wp2
             go_ret
             exact ⟨ret_bb hr.out.symm,bdraw HB.out _⟩
         · by_cases h4:m < 16
           · have hr:Hid (rightT n.data.toList 3 m=true):=Hd (right_of hb'.out (by omega) (by omega) h3 (by simpa using h4))
             have t2:decide (m < 16)=true:=by simpa using h4
             go_enter Tryz.func44,Tryz.ntmps44
             go_wp2
             go_quiet (exact (HN _).out.mono fun _ _ h=>⟨h.1,_,h.2.symm⟩)
             go_wp2
             go_ret
             exact ⟨ret_bb hr.out.symm,bdraw HB.out _⟩
           · have hr:Hid (rightT n.data.toList 3 m=false):=Hd (by simp [rightT];intro _ _;simp at h4;omega)
             have t2:decide (m < 16)=false:=by simpa using h4
             go_enter Tryz.func44,Tryz.ntmps44
             go_wp2
             go_quiet (exact (HN _).out.mono fun _ _ h=>⟨h.1,_,h.2.symm⟩)
             go_wp2
             go_ret
             exact ⟨ret_bb hr.out.symm,bdraw HB.out _⟩
         · by_cases h4:m < 32
           · have hr:Hid (rightT n.data.toList 4 m=true):=Hd (right_of hb'.out (by omega) (by omega) h3 (by simpa using h4))
             have t2:decide (m < 32)=true:=by simpa using h4
             go_enter Tryz.func44,Tryz.ntmps44
             go_wp2
             go_quiet (exact (HN _).out.mono fun _ _ h=>⟨h.1,_,h.2.symm⟩)
             go_wp2
             go_ret
             exact ⟨ret_bb hr.out.symm,bdraw HB.out _⟩
           · have hr:Hid (rightT n.data.toList 4 m=false):=Hd (by simp [rightT];intro _ _;simp at h4;omega)
             have t2:decide (m < 32)=false:=by simpa using h4
             go_enter Tryz.func44,Tryz.ntmps44
             go_wp2
             go_quiet (exact (HN _).out.mono fun _ _ h=>⟨h.1,_,h.2.symm⟩)
             go_wp2
             go_ret
             exact ⟨ret_bb hr.out.symm,bdraw HB.out _⟩
       · have hr:Hid (rightT n.data.toList l m=false):=Hd (by simp [rightT];omega)
         have t1:decide ((0:Int)≤m)=false:=by simpa using h3
         go_enter Tryz.func44,Tryz.ntmps44
         go_wp2
         go_quiet (exact (HN _).out.mono fun _ _ h=>⟨h.1,_,h.2.symm⟩)
         go_wp2
         go_ret
         exact ⟨ret_bb hr.out.symm,bdraw HB.out _⟩
     · have hr:Hid (rightT n.data.toList l m=false):=Hd (by simp [rightT];omega)
       have t1:decide (l≤(4:Int))=false:=by simpa using h2
       go_enter Tryz.func44,Tryz.ntmps44
       go_wp2
       go_quiet (exact (HN _).out.mono fun _ _ h=>⟨h.1,_,h.2.symm⟩)
       go_wp2
       go_ret
       exact ⟨ret_bb hr.out.symm,bdraw HB.out _⟩
   · have hr:Hid (rightT n.data.toList l m=false):=Hd (by simp [rightT];omega)
     have t1:decide ((0:Int)≤l)=false:=by simpa using h1
     go_enter Tryz.func44,Tryz.ntmps44
     go_wp2
     go_quiet (exact (HN _).out.mono fun _ _ h=>⟨h.1,_,h.2.symm⟩)
     go_wp2
     go_ret
     exact ⟨ret_bb hr.out.symm,bdraw HB.out _⟩
end Go.Proofs.YtaekdfcpbepepaaGreatDoor
