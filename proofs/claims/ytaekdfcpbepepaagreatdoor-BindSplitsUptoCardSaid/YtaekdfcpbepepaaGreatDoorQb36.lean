/- schema.params: its iterator hands out all parameters, those of the fields first. (gen_parit.py wrote it.) -/
import Derived.Test.YtaekdfcpbepepaaGreatDoorQb35
set_option maxRecDepth 100000
set_option maxHeartbeats 8000000
namespace Go.Proofs.YtaekdfcpbepepaaGreatDoor
open Go.RowKit
attribute [local go_sem] Oper.semAt_some
theorem params_any (A:Option Addr) (n k:Nat) (q m:ByteArray) (w:World) :
  Calls Tryz.prog 107 #[.agg #[.slice A n k,.string q,.string m]] w fun e w'=>e=.returned (.func (.func 153) #[] #[.pointer (some ⟨w.heap.size,0,none⟩)])∧w'=w.alloc (.cells #[.slice A n k,.string q,.string m] 24):=by
 go_enter Tryz.func107,Tryz.ntmps107
 go_wp2_with fail
 go_ret
 exact ⟨rfl,rfl⟩
theorem postM_mark0 {n:Nat} {P:Program} {fn:Func} {R:Ending→World→Prop} {a:Act} {w:World} {D:Nat} {x:Exit} (hx:x=.ret∨x=.normal) (hf:fn.results=#[]) (hd:a.defers=[{ target:=.collected D,args:=#[] }]) (hK:w.heap[D]? = some (.deferred (some []))) (hR:∀ v,R (.returned v) (w.putObj D (.deferred none))):bodyPostM Fence.wide n P fn R x a w:=by
 have key:bodyPostM Fence.wide n P fn R .ret a w:=by
   show LeavesInM _ _ _ _ _ _ a.defers _ _
   rw [hd]
   refine ⟨by simp,.inl ⟨_,_,rfl,run_takeDeferred hK,?_⟩⟩
   exact ⟨_,results_none hf _ _ _,hR _⟩
 rcases hx with rfl|rfl
 · exact key
 · exact key
def cntP (D:List DefnT) (i:Nat):Nat:=(((allF D).take i).flatMap fun f=>f.params).length
theorem cntP_end (D:List DefnT):cntP D (allF D).length=(allFP D).length:=flat_end (fun f:FieldT=>f.params) (allF D)
theorem cntP_next {D:List DefnT} {i:Nat} {f:FieldT} (h:(allF D)[i]? = some f):cntP D (i+1)=cntP D i+f.params.length:=flat_next (fun f:FieldT=>f.params) h
theorem cntP_at {D:List DefnT} {i z:Nat} {f:FieldT} {p:VarT} (h:(allF D)[i]? = some f) (hp:f.params[z]? = some p):(allFP D)[cntP D i+z]? = some p:=flat_at (fun f:FieldT=>f.params) h hp
theorem cntP_lt {D:List DefnT} {i z:Nat} {f:FieldT} (h:(allF D)[i]? = some f) (hz:z < f.params.length):cntP D i+z < (allFP D).length:=flat_lt (fun f:FieldT=>f.params) h hz
theorem params_in (S:SchT) (sb B:Nat) (c0 c1 c2:Value) (X:Nat→Prop) (W:World) (hX:∀ b,X b→b < W.heap.size∧B≤b∧b ≠ sb) (hBW:B≤W.heap.size) (hbox:W.heap[sb]? = some (.cells #[c0,c1,c2] 24 (0,0))) (hS:TS W (fun b=>b < B) (encSch S) [c0,c1,c2]) :
  IterZ 153 #[.pointer (some ⟨sb,0,none⟩)] (allPm S.defs).length (LiesV S.defs B) X W:=by
 intro l J Jx hJ hJx hY hJ0
 obtain ⟨A,k,e,hl,hR⟩:=sch_cells hS
 injection e with e0 e
 injection e with e1 e
 injection e with e2 e
 subst e0 e1 e2
 have HJ:=Hd hJ
 have HJX:=Hd hJx
 have HY:=Hd hY
 have HJ0:=Hd hJ0
 have HX:=Hd hX
 have HB:=Hd hBW
 have HS:=Hd hS
 have HXB:Hid (∀ b,b < B→¬ X b):=Hd (fun b hb hx=>by have:=(hX b hx).2.1;omega)
 have HR:=Hd hR
 have hsb:sb < W.heap.size:=(Array.getElem?_eq_some_iff.1 hbox).1
 have hxs : ¬ X sb:=fun hx=>(hX sb hx).2.2 rfl
 have bn:=dbelow_new W (.cells #[.func (.yield l) #[] #[]] 153)
 have Y1:=Hd (heap_alloc_new W (.cells #[.func (.yield l) #[] #[]] 153))
 have HB1:=Hd ((bn.block sb hsb).trans hbox)
 have HZ1:Hid ((W.alloc (.cells #[.func (.yield l) #[] #[]] 153)).heap.size=W.heap.size+1):=Hd (by simp)
 have B1:=Hd bn
 clear hJ hJx hY hJ0 hX hBW hS hR e hbox bn
 refine callsIn_wide.2 ?_
 rw [show (#[.func (.yield l) #[] #[]] ++ #[.pointer (some ⟨sb,0,none⟩)]:Array Value)=#[.func (.yield l) #[] #[],.pointer (some ⟨sb,0,none⟩)] from rfl]
 refine callsIn_wide.1 (callsIn_of_wp_marks (F:=Fence.wide) (n:=3) Tryz.func153 rfl trivial ?_)
 simp only [Tryz.ntmps153,List.size_toArray,List.length_cons,List.length_nil,Nat.reduceAdd,Nat.reduceSub,Array.replicate_succ,Array.replicate_zero,List.push_toArray,List.append_toArray,List.nil_append,List.cons_append]
 refine wpIn_wide.2 ?_
 go_upto_region 1 with fail
 generalize W.alloc (.cells #[.func (.yield l) #[] #[]] 153)=w1 at Y1 HB1 HZ1 B1 ⊢
 obtain ⟨gy,hgy⟩:∃ g,W.heap.size=g:=⟨_,rfl⟩
 rw [hgy] at Y1 ⊢
 have HGY:=Hd hgy
 clear hgy
 obtain ⟨y0,y1,y2⟩:=three_cells HB1.out
 have FA:=Hd (fun (wx:World)=>fields_any A S.defs.length k S.query S.mutation wx)
 go_wp2_with fail
 refine (FA.out _).mono ?_
 rintro e w2 ⟨rfl,hw2⟩
 have b2:Below w1.heap.size w1 w2:=by rw [hw2];exact dbelow_new _ _
 have hs2:w2.heap.size=w1.heap.size+1:=by rw [hw2];simp
 have F2:w2.heap[w1.heap.size]? = some (.cells #[.slice A S.defs.length k,.string S.query,.string S.mutation] 24 (0,0)):=by rw [hw2];exact heap_alloc_new _ _
 have z1:=HZ1.out
 have hgy':=HGY.out
 have hbw:=HB.out
 rw [z1,hgy'] at F2
 rw [z1,hgy']
 have hY2:w2.heap[gy]? = some (.cells #[.func (.yield l) #[] #[]] 153 (0,0)):=(b2.block gy (Array.getElem?_eq_some_iff.1 Y1.out).1).trans Y1.out
 have hS2:w2.heap[sb]? = some (.cells #[.slice A S.defs.length k,.string S.query,.string S.mutation] 24 (0,0)):=(b2.block sb (Array.getElem?_eq_some_iff.1 HB1.out).1).trans HB1.out
 have L2:Below W.heap.size W w2:=B1.out.trans (b2.mono B1.out.size)
 have hz2:W.heap.size+2≤w2.heap.size∧w2.heap.size≤W.heap.size+2:=by omega
 have J2:J 0 w2:=HJ.out _ _ _ HJ0.out L2
 clear hw2 b2 hs2 z1 hgy' Y1 HB1 HZ1 B1 y0 y1 y2 FA
 have HL2:=Hd L2
 have HJ2:=Hd J2
 have HF2:=Hd F2
 have HY2:=Hd hY2
 have HS2:=Hd hS2
 clear L2 J2 F2 hY2 hS2
 go_wp2_with fail
 obtain ⟨NF,hNF⟩:∃ n,(allFP S.defs).length=n:=⟨_,rfl⟩
 have HNF:=Hd hNF
 have hn':(allPm S.defs).length=NF+(allDP S.defs).length:=by rw [← hNF];exact List.length_append
 have HNP:=Hd hn'
 clear hNF hn'
 refine (wpIn_wide (n:=3)).1 (wpIn_rangeFunc_y (F:=Fence.wide) rfl (by decide) (gf:=152) (lb:=#[.pointer (some ⟨gy+1,0,none⟩)]) rfl trivial (enters_of Tryz.func152 (by kernel_rfl) rfl)
  (allF S.defs).length (fun cs=>#[.agg cs.toArray]) (LiesF S.defs B) (Below (w2.heap.size+2)) (fun A B=>Below A.heap.size A B) (MoZ (fun b=>X b∨b=w2.heap.size+1)) (MoZ (fun b=>b < w2.heap.size+2)) (fun _=>rfl)
  (fun i V=>J (cntP S.defs i) V∧MoZ X w2 V)
  (fun c i V=>c=.ret∧∃ j,j < NF∧Jx j V)
  ?hTl ?hIT ?hIxT ?hIr ?hIxr ?hRc ?hRXc ?h0 ?hseq ?hround ?hdone ?hstop)
 case hTl =>
  intro a b ht c o hc ho
  exact (ht.block c (by omega)).trans ho
 case hIT =>
  rintro i a b ⟨h1,h2⟩ ht
  exact ⟨HJ.out _ _ _ h1 (ht.mono (by omega)),⟨ht.os.trans h2.os,ht.tape.trans h2.tape,ht.output.trans h2.output,Nat.le_trans h2.size ht.size,fun c hc hn=>(ht.block c (by omega)).trans (h2.block c hc hn)⟩⟩
 case hIxT =>
  rintro c i a b ⟨h1,j,h2,h3⟩ ht
  exact ⟨h1,j,h2,HJX.out _ _ _ h3 (ht.mono (by omega))⟩
 case hIr =>
  rintro i V o ⟨h1,h2⟩ hlt
  exact ⟨HJ.out _ _ _ h1 (low_put (Below.refl _ _) (by omega) o),⟨h2.os,h2.tape,h2.output,by simp;exact h2.size,fun c hc hn=>(World.putObj_heap_other (by omega)).trans (h2.block c hc hn)⟩⟩
 case hIxr =>
  rintro c i V o ⟨h1,j,h2,h3⟩ hlt
  exact ⟨h1,j,h2,HJX.out _ _ _ h3 (low_put (Below.refl _ _) (by omega) o)⟩
 case hRc =>
  rintro i V V1 V3 o o' _ hb hd hr
  exact ((MoZ.of_below hb).trans (MoZ.put (.inr rfl) o)).trans (hr.trans (MoZ.put (.inr rfl) o'))
 case hRXc =>
  rintro V V1 V3 o o' hb hd hr
  exact ((MoZ.of_below hb).trans (MoZ.put (by omega) o)).trans (hr.trans (MoZ.put (by omega) o'))
 case h0 =>
  intro W1 hb hs1
  exact ⟨HJ.out _ _ _ HJ2.out (hb.mono (by omega)),MoZ.of_below hb⟩
 case hseq =>
  intro W1 J' Jx' hb hs1 hJ' hJx' hY' hJ0'
  exact fields_in S (gy+1) B _ _ _ (fun b=>X b∨b=w2.heap.size+1) W1 (fun b hb'=>by
   rcases hb' with hb'|rfl
   · have:=HX.out b hb';have:=HGY.out;omega
   · have:=HGY.out;omega) (by omega) ((hb.block _ (by have:=HGY.out;omega)).trans HF2.out) (TS.low ((HL2.out.trans (hb.mono (by omega))).mono HB.out) HS.out) (w2.heap.size+1) J' Jx' (fun i a b h ht=>hJ' i a b h (by rw [← hs1];exact ht)) (fun i a b h ht=>hJx' i a b h (by rw [← hs1];exact ht)) (fun i x V hi hj hL=>(hY' i x V hi hj hL).mono (fun e V' h=>by rw [← hs1] at h;exact h)) hJ0'
 case hround =>
  rintro i cs V hi ⟨h1,h2⟩ ⟨f,hf,hT⟩ hlt
  obtain ⟨Bp,jp,Bd,jd,rfl,_,⟨hpl,hp⟩,_⟩:=fld_cells hT
  have e0:∀ z:List Value,(#[12].zip ((fun cs=>#[.agg cs.toArray]) z:Array Value))=#[(12,.agg z.toArray)]:=fun z=>by simp
  simp only [e0]
  gi_wp2
  have hb9:=dbelow_new V (.cells #[.string f.name,.slice Bp f.params.length jp,.string f.tn,.int .i64 f.tl,.int .i64 f.tm,.slice Bd f.dirs.length jd] 46)
  have i9:=heap_alloc_new V (.cells #[.string f.name,.slice Bp f.params.length jp,.string f.tn,.int .i64 f.tl,.int .i64 f.tm,.slice Bd f.dirs.length jd] 46)
  generalize V.alloc (.cells #[.string f.name,.slice Bp f.params.length jp,.string f.tn,.int .i64 f.tl,.int .i64 f.tm,.slice Bd f.dirs.length jd] 46)=V0 at hb9 i9 ⊢
  have hsv:=h2.size
  refine ⟨hb9.mono (by omega),hb9,⟨HJ.out _ _ _ h1 (hb9.mono (by omega)),h2.trans (MoZ.of_below hb9)⟩,fun o=>?_⟩
  have J3:J (cntP S.defs i) (V0.putObj (w2.heap.size+1) o):=HJ.out _ _ _ (HJ.out _ _ _ h1 (hb9.mono (by omega))) (low_put (Below.refl _ _) (by omega) o)
  have i9p:=(World.putObj_heap_other (w:=V0) (r:=w2.heap.size+1) (o:=o) (show V.heap.size ≠ w2.heap.size+1 by omega)).trans i9
  have M3:MoZ X w2 (V0.putObj (w2.heap.size+1) o):=by
   have h3:=h2.trans (MoZ.of_below hb9)
   exact ⟨h3.os,h3.tape,h3.output,by simp;exact h3.size,fun c hc hn=>(World.putObj_heap_other (by omega)).trans (h3.block c hc hn)⟩
  have hs9:=hb9.size
  have hsp:V.heap.size < (V0.putObj (w2.heap.size+1) o).heap.size:=(Array.getElem?_eq_some_iff.1 i9p).1
  have HTQ:Hid (TS (V0.putObj (w2.heap.size+1) o) (fun b=>b < B) (encField f) [.string f.name,.slice Bp f.params.length jp,.string f.tn,.int .i64 f.tl,.int .i64 f.tm,.slice Bd f.dirs.length jd]):=Hd (TS.keep (fun b hb=>⟨hb,(World.putObj_heap_other (by omega)).trans (hb9.block b (by omega))⟩) _ _ hT)
  generalize V0.putObj (w2.heap.size+1) o=V1 at J3 i9p M3 hsp HTQ ⊢
  have HTS:Hid (TS V1 (fun b=>b < B) (encField f) [.string f.name,.slice Bp f.params.length jp,.string f.tn,.int .i64 f.tl,.int .i64 f.tm,.slice Bd f.dirs.length jd]):=Hd HTQ.out
  obtain ⟨_,_,_,_,eq,_,⟨_,hp1⟩,_⟩:=fld_cells HTS.out
  simp only [List.cons.injEq,Value.slice.injEq,and_true,true_and] at eq
  obtain ⟨⟨rfl,rfl⟩,rfl,rfl⟩:=eq
  have HP:=Hd hp1
  have HF:=Hd hf
  have J1:=Hd J3
  have M1:=Hd M3
  have I9:=Hd i9p
  have HS1:=Hd hsp
  have hbs:=hsv
  obtain ⟨⟨y0,y1,y2,y3,y4,y5⟩,_⟩:=six_cells i9p
  have hB1:B≤V1.heap.size:=by omega
  clear hp1 hp hf J3 M3 i9p hT h1 h2 hb9 i9
  gi_wp2
  clear y0 y1 y2 y3 y4 y5
  gi_loopg [16] f.params.length (fun g i2 wx=>∃ z:Nat,z+g=f.params.length∧i2=.int .i64 z∧Aside (J (cntP S.defs i+z) wx∧MoZ X V1 wx))
  case atStart=>exact ⟨0,by omega,rfl,Blk.Aside.intro ⟨J1.out,MoZ.refl⟩⟩
  case round =>
   obtain ⟨z,hz,rfl,hx⟩:=hrel
   have J5:=Hd hx.out.1
   have M5:=Hd hx.out.2
   clear hx
   cases gk with
   | zero =>
     obtain rfl:z=f.params.length:=by omega
     gi_wp2
     have m5:=M5.out
     refine ⟨⟨m5.block _ (by omega) (fun hx=>by have:=(HX.out _ hx).1;omega),m5.block _ (by omega) (fun hx=>by have:=(HX.out _ hx).1;omega)⟩,⟨by rw [cntP_next HF.out];exact J5.out,M1.out.trans m5⟩,m5.mono (fun b hb=>.inl hb)⟩
   | succ g =>
     have hzn:z < f.params.length:=by omega
     have hzn':(z:Int) < (f.params.length:Int):=by omega
     obtain ⟨p,hpx⟩:∃ x,f.params[z]? = some x:=⟨_,List.getElem?_eq_getElem hzn⟩
     obtain ⟨b,o,cs,rfl,hb,hc,hT⟩:=rowOf_at 10 len_par HP.out hpx
     have HLB:=Hd (Nat.lt_of_lt_of_le hb hB1)
     have HNB:=Hd (HXB.out b hb)
     obtain ⟨E3,j3,E4,j4,rfl,_⟩:=var_cells hT
     have HAT:=Hd (cntP_at HF.out hpx)
     have HLT:=Hd (cntP_lt HF.out hzn)
     have g0:=(moz_cell M5.out (o:=o+z*10) HLB.out HNB.out).trans (hc 0 _ rfl)
     have g1:=(moz_cell M5.out (o:=o+z*10+1) HLB.out HNB.out).trans (hc 1 _ rfl)
     have g2:=(moz_cell M5.out (o:=o+z*10+2) HLB.out HNB.out).trans (hc 2 _ rfl)
     have g3:=(moz_cell M5.out (o:=o+z*10+3) HLB.out HNB.out).trans (hc 3 _ rfl)
     have g4:=(moz_cell M5.out (o:=o+z*10+4) HLB.out HNB.out).trans (hc 4 _ rfl)
     have g5:=(moz_cell M5.out (o:=o+z*10+5) HLB.out HNB.out).trans (hc 5 _ rfl)
     have g6:=(moz_cell M5.out (o:=o+z*10+6) HLB.out HNB.out).trans (hc 6 _ rfl)
     have g7:=(moz_cell M5.out (o:=o+z*10+7) HLB.out HNB.out).trans (hc 7 _ rfl)
     have g8:=(moz_cell M5.out (o:=o+z*10+8) HLB.out HNB.out).trans (hc 8 _ rfl)
     have g9:=(moz_cell M5.out (o:=o+z*10+9) HLB.out HNB.out).trans (hc 9 _ rfl)
     have HT:=Hd hT
     have GY:=Hd ((M1.out.trans M5.out).heap HY2.out (fun hx=>by have h1:=(HX.out _ hx).1;have h2:=HGY.out;omega))
     clear hpx hb hc hT
     gi_upto_region 6 with fail
     clear g0 g1 g2 g3 g4 g5 g6 g7 g8 g9
     have bn:=dbelow_new wr (.cells #[.string p.name,.string p.tn,.int .i64 p.tl,.int .i64 p.tm,.bool p.has,.int .i64 p.v.kd,.int .i64 p.v.nn,.string p.v.ss,.slice E3 p.v.ls.len j3,.slice E4 p.v.ms.len j4] 60)
     have J6:=Hd (HJ.out _ _ _ J5.out (bn.mono (by have:=M5.out.size;omega)))
     have M6:=Hd (M5.out.trans (MoZ.of_below bn))
     have Y6:=Hd (heap_alloc_new wr (.cells #[.string p.name,.string p.tn,.int .i64 p.tl,.int .i64 p.tm,.bool p.has,.int .i64 p.v.kd,.int .i64 p.v.nn,.string p.v.ss,.slice E3 p.v.ls.len j3,.slice E4 p.v.ms.len j4] 60))
     have G6:=Hd ((bn.block _ (Array.getElem?_eq_some_iff.1 GY.out).1).trans GY.out)
     generalize wr.alloc (.cells #[.string p.name,.string p.tn,.int .i64 p.tl,.int .i64 p.tm,.bool p.has,.int .i64 p.v.kd,.int .i64 p.v.nn,.string p.v.ss,.slice E3 p.v.ls.len j3,.slice E4 p.v.ms.len j4] 60)=w6 at J6 M6 Y6 G6 ⊢
     generalize wr.heap.size=gp at Y6 ⊢
     clear bn J5 M5 GY
     obtain ⟨⟨y0,y1,y2,y3,y4,y5,y6,y7,y8,y9⟩,_⟩:=ten_cells Y6.out
     obtain ⟨x0,x1⟩:=one_box G6.out
     obtain ⟨fn,tmps,assign,body,hy,hRd⟩:=HY.out (cntP S.defs i+z) [.string p.name,.string p.tn,.int .i64 p.tl,.int .i64 p.tm,.bool p.has,.int .i64 p.v.kd,.int .i64 p.v.nn,.string p.v.ss,.slice E3 p.v.ls.len j3,.slice E4 p.v.ms.len j4] w6 (by rw [HNP.out];have h1:=HLT.out;have h2:(allFP S.defs).length=NF:=HNF.out;omega) J6.out ⟨p,by unfold allPm;rw [List.getElem?_append_left HLT.out];exact HAT.out,M6.out.keep (fun b hb=>⟨Nat.lt_of_lt_of_le hb hB1,HXB.out b hb⟩) HT.out⟩
     have hy:(Instr.yield l #[.agg #[.string p.name,.string p.tn,.int .i64 p.tl,.int .i64 p.tm,.bool p.has,.int .i64 p.v.kd,.int .i64 p.v.nn,.string p.v.ss,.slice E3 p.v.ls.len j3,.slice E4 p.v.ms.len j4]]).run Tryz.prog w6=.ok (.round l fn tmps assign body) w6:=hy
     have HRD:=Hd hRd
     clear hRd
     gi_wp2
     refine (round_any HRD.out).mono ?_
     rintro e w7 (⟨rfl,hj,hm⟩|⟨rfl,hj,hm⟩)
     · have J7:=Hd hj
       have M7:=Hd (M6.out.trans hm)
       clear hj hm y0 y1 y2 y3 y4 y5 y6 y7 y8 y9 x0 x1 hy
       gi_wp2
       gi_roundg g
       case measure=>omega
       case rel=>exact ⟨z+1,by omega,by go_num,Blk.Aside.intro ⟨J7.out,M7.out⟩⟩
     · have J7:=Hd hj
       have M7:=Hd hm
       have HJL:Hid (cntP S.defs i+z < NF):=Hd (by have h1:=HLT.out;have h2:(allFP S.defs).length=NF:=HNF.out;omega)
       clear hj hm y0 y1 y2 y3 y4 y5 y6 y7 y8 y9 x0 x1 hy
       gi_wp2
       have m6:=M6.out
       have m7:=M7.out
       have s6:=m6.size
       have hxl:∀ b,X b→b < W.heap.size:=fun b hb=>(HX.out b hb).1
       refine ⟨⟨(m7.block _ (by omega) (by omega)).trans (m6.block _ (by omega) (fun hx=>by have:=hxl _ hx;omega)),(m7.block _ (by omega) (by omega)).trans (m6.block _ (by omega) (fun hx=>by have:=hxl _ hx;omega))⟩,⟨rfl,_,HJL.out,J7.out⟩,(m6.mono (fun b hb=>by have:=hxl b hb;omega)).trans (m7.mono (fun b hb=>by omega))⟩
 case hdone =>
  rintro V ⟨h1,h2⟩ hK
  rw [cntP_end,HNF.out] at h1
  have J1:=Hd h1
  have M1:=Hd h2
  have HK:=Hd hK
  have HG:=Hd (h2.heap HS2.out hxs)
  have HT:Hid (TS V (fun b=>b < B) (encSch S) [.slice A S.defs.length k,.string S.query,.string S.mutation]):=Hd (h2.keep (fun b hb=>⟨by omega,HXB.out b hb⟩) (TS.low (HL2.out.mono HB.out) HS.out))
  obtain ⟨_,_,eq,_,hRV⟩:=sch_cells HT.out
  simp only [List.cons.injEq,Value.slice.injEq,and_true,true_and] at eq
  obtain ⟨rfl,rfl⟩:=eq
  have HRV:=Hd hRV
  have GY:=Hd (h2.heap HY2.out (fun hx=>by have h1:=(HX.out _ hx).1;have h2:=HGY.out;omega))
  have hsv:=h2.size
  have hBV:B≤V.heap.size:=by omega
  obtain ⟨y0,y1,y2⟩:=three_cells HG.out
  clear h1 h2 hK hRV
  go_wp2_with fail
  clear y0 y1 y2
  go_loopg [28] S.defs.length (fun g i wx=>∃ q:Nat,q+g=S.defs.length∧i=.int .i64 q∧Aside (J (NF+((S.defs.take q).flatMap fun d=>d.params).length) wx∧MoZ X V wx))
  case atStart=>exact ⟨0,by omega,rfl,Blk.Aside.intro ⟨J1.out,MoZ.refl⟩⟩
  case round =>
   obtain ⟨q,hq,rfl,hx⟩:=hrel
   have J3:=Hd hx.out.1
   have M3:=Hd hx.out.2
   clear hx
   cases gk with
   | zero =>
     obtain rfl:q=S.defs.length:=by omega
     have HF:Hid (J (allPm S.defs).length wr):=Hd (by have h:=J3.out;rw [flat_end] at h;rw [HNP.out];exact h)
     clear J3
     go_wp2_with fail
     refine postM_mark0 (D:=w2.heap.size) (.inr rfl) rfl rfl (M3.out.heap HK.out (fun hx=>by have:=(HX.out _ hx).1;omega)) (fun v=>⟨⟨v,rfl⟩,.inl (HJ.out _ _ _ HF.out (low_put (Below.refl _ _) (by omega) _))⟩)
   | succ g =>
     have hqn:q < S.defs.length:=by omega
     have hqn':(q:Int) < (S.defs.length:Int):=by omega
     obtain ⟨d,hx⟩:∃ x,S.defs[q]? = some x:=⟨_,List.getElem?_eq_getElem hqn⟩
     obtain ⟨b,o,cs,rfl,hb,hc,hT⟩:=rowOf_at 6 defn_len HRV.out hx
     have HBL:=Hd (Nat.lt_of_lt_of_le hb hBV)
     have HBN:=Hd (HXB.out b hb)
     obtain ⟨Af,kf,Ax,kx,Ap,kp,Am,km,rfl,hdn⟩:=defn_cells hT
     have hpl:=hdn.2.2.2.2.1
     have hpr:=hdn.2.2.2.2.2
     have g0:=(moz_cell M3.out (o:=o+q*6) HBL.out HBN.out).trans (hc 0 _ rfl)
     have g1:=(moz_cell M3.out (o:=o+q*6+1) HBL.out HBN.out).trans (hc 1 _ rfl)
     have g2:=(moz_cell M3.out (o:=o+q*6+2) HBL.out HBN.out).trans (hc 2 _ rfl)
     have g3:=(moz_cell M3.out (o:=o+q*6+3) HBL.out HBN.out).trans (hc 3 _ rfl)
     have g4:=(moz_cell M3.out (o:=o+q*6+4) HBL.out HBN.out).trans (hc 4 _ rfl)
     have g5:=(moz_cell M3.out (o:=o+q*6+5) HBL.out HBN.out).trans (hc 5 _ rfl)
     have HD:=Hd hx
     have HF:=Hd hpr
     clear hx hb hc hT hdn hpr
     go_upto_region 11 with fail
     clear g0 g1 g2 g3 g4 g5
     have bn:=dbelow_new wr (.cells #[.int .i64 d.kind,.string d.name,.slice Af d.faces.length kf,.slice Ax d.fields.length kx,.slice Ap d.parts.length kp,.slice Am d.params.length km] 37)
     have J4:=Hd (HJ.out _ _ _ J3.out (bn.mono (by have:=M3.out.size;omega)))
     have M4:=Hd (M3.out.trans (MoZ.of_below bn))
     have Y4:=Hd (heap_alloc_new wr (.cells #[.int .i64 d.kind,.string d.name,.slice Af d.faces.length kf,.slice Ax d.fields.length kx,.slice Ap d.parts.length kp,.slice Am d.params.length km] 37))
     generalize wr.alloc (.cells #[.int .i64 d.kind,.string d.name,.slice Af d.faces.length kf,.slice Ax d.fields.length kx,.slice Ap d.parts.length kp,.slice Am d.params.length km] 37)=w4 at J4 M4 Y4 ⊢
     generalize wr.heap.size=gd at Y4 ⊢
     clear bn J3 M3
     obtain ⟨⟨y0,y1,y2,y3,y4,y5⟩,_⟩:=six_cells Y4.out
     go_wp2_with fail
     clear y0 y1 y2 y3 y4 y5
     go_loopg [35] d.params.length (fun g2 i wx=>∃ z:Nat,z+g2=d.params.length∧i=.int .i64 z∧Aside (J (NF+((S.defs.take q).flatMap fun d=>d.params).length+z) wx∧MoZ X V wx))
     case atStart=>exact ⟨0,by omega,rfl,Blk.Aside.intro ⟨J4.out,M4.out⟩⟩
     case round =>
       obtain ⟨z,hz,rfl,hx⟩:=hrel
       have J5:=Hd hx.out.1
       have M5:=Hd hx.out.2
       clear hx J4 M4 Y4
       cases gk with
       | zero =>
         obtain rfl:z=d.params.length:=by omega
         have J6:Hid (J (NF+((S.defs.take (q+1)).flatMap fun d=>d.params).length) wr):=Hd (by rw [flat_next _ HD.out,← Nat.add_assoc];exact J5.out)
         go_wp2_with fail
         go_roundg g
         case measure=>omega
         case rel=>exact ⟨q+1,by omega,by go_num,Blk.Aside.intro ⟨J6.out,M5.out⟩⟩
       | succ g2 =>
         have hzn:z < d.params.length:=by omega
         have hzn':(z:Int) < (d.params.length:Int):=by omega
         obtain ⟨p,hpx⟩:∃ x,d.params[z]? = some x:=⟨_,List.getElem?_eq_getElem hzn⟩
         obtain ⟨b,o,cs,rfl,hb,hc,hT⟩:=rowOf_at 10 len_par HF.out hpx
         have HLB:=Hd (Nat.lt_of_lt_of_le hb hBV)
         have HNB:=Hd (HXB.out b hb)
         obtain ⟨E3,j3,E4,j4,rfl,_⟩:=var_cells hT
         have HAT:=Hd (flat_at (fun d:DefnT=>d.params) HD.out hpx)
         have HLT:=Hd (flat_lt (fun d:DefnT=>d.params) HD.out hzn)
         have g0:=(moz_cell M5.out (o:=o+z*10) HLB.out HNB.out).trans (hc 0 _ rfl)
         have g1:=(moz_cell M5.out (o:=o+z*10+1) HLB.out HNB.out).trans (hc 1 _ rfl)
         have g2:=(moz_cell M5.out (o:=o+z*10+2) HLB.out HNB.out).trans (hc 2 _ rfl)
         have g3:=(moz_cell M5.out (o:=o+z*10+3) HLB.out HNB.out).trans (hc 3 _ rfl)
         have g4:=(moz_cell M5.out (o:=o+z*10+4) HLB.out HNB.out).trans (hc 4 _ rfl)
         have g5:=(moz_cell M5.out (o:=o+z*10+5) HLB.out HNB.out).trans (hc 5 _ rfl)
         have g6:=(moz_cell M5.out (o:=o+z*10+6) HLB.out HNB.out).trans (hc 6 _ rfl)
         have g7:=(moz_cell M5.out (o:=o+z*10+7) HLB.out HNB.out).trans (hc 7 _ rfl)
         have g8:=(moz_cell M5.out (o:=o+z*10+8) HLB.out HNB.out).trans (hc 8 _ rfl)
         have g9:=(moz_cell M5.out (o:=o+z*10+9) HLB.out HNB.out).trans (hc 9 _ rfl)
         have HT:=Hd hT
         have G5:=Hd (M5.out.heap GY.out (fun hx=>by have h1:=(HX.out _ hx).1;have h2:=HGY.out;omega))
         clear hpx hb hc hT
         go_upto_region 14 with fail
         clear g0 g1 g2 g3 g4 g5 g6 g7 g8 g9
         have bn:=dbelow_new wr (.cells #[.string p.name,.string p.tn,.int .i64 p.tl,.int .i64 p.tm,.bool p.has,.int .i64 p.v.kd,.int .i64 p.v.nn,.string p.v.ss,.slice E3 p.v.ls.len j3,.slice E4 p.v.ms.len j4] 60)
         have J6:=Hd (HJ.out _ _ _ J5.out (bn.mono (by have:=M5.out.size;omega)))
         have M6:=Hd (M5.out.trans (MoZ.of_below bn))
         have Y6:=Hd (heap_alloc_new wr (.cells #[.string p.name,.string p.tn,.int .i64 p.tl,.int .i64 p.tm,.bool p.has,.int .i64 p.v.kd,.int .i64 p.v.nn,.string p.v.ss,.slice E3 p.v.ls.len j3,.slice E4 p.v.ms.len j4] 60))
         have G6:=Hd ((bn.block _ (Array.getElem?_eq_some_iff.1 G5.out).1).trans G5.out)
         generalize wr.alloc (.cells #[.string p.name,.string p.tn,.int .i64 p.tl,.int .i64 p.tm,.bool p.has,.int .i64 p.v.kd,.int .i64 p.v.nn,.string p.v.ss,.slice E3 p.v.ls.len j3,.slice E4 p.v.ms.len j4] 60)=w6 at J6 M6 Y6 G6 ⊢
         generalize wr.heap.size=gp at Y6 ⊢
         clear bn J5 M5 G5
         obtain ⟨⟨y0,y1,y2,y3,y4,y5,y6,y7,y8,y9⟩,_⟩:=ten_cells Y6.out
         obtain ⟨x0,x1⟩:=one_box G6.out
         obtain ⟨fn,tmps,assign,body,hy,hRd⟩:=HY.out (NF+((S.defs.take q).flatMap fun d=>d.params).length+z) [.string p.name,.string p.tn,.int .i64 p.tl,.int .i64 p.tm,.bool p.has,.int .i64 p.v.kd,.int .i64 p.v.nn,.string p.v.ss,.slice E3 p.v.ls.len j3,.slice E4 p.v.ms.len j4] w6 (by rw [HNP.out];have h1:=HLT.out;unfold allDP;omega) J6.out ⟨p,by unfold allPm;rw [Nat.add_assoc,← HNF.out,List.getElem?_append_right (Nat.le_add_right _ _),Nat.add_sub_cancel_left];exact HAT.out,M6.out.keep (fun b hb=>⟨Nat.lt_of_lt_of_le hb hBV,HXB.out b hb⟩) HT.out⟩
         have hy:(Instr.yield l #[.agg #[.string p.name,.string p.tn,.int .i64 p.tl,.int .i64 p.tm,.bool p.has,.int .i64 p.v.kd,.int .i64 p.v.nn,.string p.v.ss,.slice E3 p.v.ls.len j3,.slice E4 p.v.ms.len j4]]).run Tryz.prog w6=.ok (.round l fn tmps assign body) w6:=hy
         have HRD:=Hd (round_w (m':=2) hRd)
         clear hRd
         refine (wpIn_wide (n:=3)).1 ?_
         gi_wp2
         refine HRD.out.mono ?_
         rintro e w7 (⟨rfl,hj,hm⟩|⟨rfl,hj,hm⟩)
         · have J7:=Hd hj
           have M7:=Hd (M6.out.trans hm)
           clear hj hm y0 y1 y2 y3 y4 y5 y6 y7 y8 y9 x0 x1 hy
           gi_wp2
           go_wp2_with fail
           go_roundg g2
           case measure=>omega
           case rel=>exact ⟨z+1,by omega,by go_num,Blk.Aside.intro ⟨J7.out,M7.out⟩⟩
         · have J7:=Hd hj
           have M7:=Hd hm
           have HJL:Hid (NF+((S.defs.take q).flatMap fun d=>d.params).length+z < (allPm S.defs).length):=Hd (by rw [HNP.out];have h1:=HLT.out;unfold allDP;omega)
           clear hj hm y0 y1 y2 y3 y4 y5 y6 y7 y8 y9 x0 x1 hy
           gi_wp2
           go_wp2_with fail
           have s6:=M6.out.size
           have hkv:=(Array.getElem?_eq_some_iff.1 HK.out).1
           refine postM_mark0 (D:=w2.heap.size) (.inl rfl) rfl rfl ((M7.out.block _ (by omega) (by omega)).trans (M6.out.heap HK.out (fun hx=>by have:=(HX.out _ hx).1;omega))) (fun v=>⟨⟨v,rfl⟩,.inr ⟨_,HJL.out,HJX.out _ _ _ J7.out (low_put (Below.refl _ _) (by omega) _)⟩⟩)
 case hstop =>
  rintro c i V hi ⟨rfl,j,hj,hx⟩ hK
  refine wpIn_wide.2 ?_
  have HXX:=Hd hx
  have HK:=Hd hK
  clear hx hK
  go_wp2_with fail
  refine postM_mark0 (D:=w2.heap.size) (.inl rfl) rfl rfl HK.out (fun v=>⟨⟨v,rfl⟩,.inr ⟨j,by rw [HNP.out];omega,HJX.out _ _ _ HXX.out (low_put (Below.refl _ _) (by omega) _)⟩⟩)
end Go.Proofs.YtaekdfcpbepepaaGreatDoor
