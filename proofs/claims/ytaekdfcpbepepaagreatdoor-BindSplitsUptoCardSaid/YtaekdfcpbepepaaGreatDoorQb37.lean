/- What the rules that range over fields and parameters have in common. (gen_itrule.py wrote it.) -/
import Derived.Test.YtaekdfcpbepepaaGreatDoorQb36
set_option maxRecDepth 100000
set_option maxHeartbeats 8000000
namespace Go.Proofs.YtaekdfcpbepepaaGreatDoor
open Go.RowKit
theorem two_collected {D1 D2:Nat} {w:World} (h1:w.heap[D1]? = some (.deferred (some []))) (hne:D1 ≠ D2):(w.putObj D2 (.deferred none)).heap[D1]? = some (.deferred (some [])):=(World.putObj_heap_other hne).trans h1
theorem postM_mark2 {n:Nat} {P:Program} {fn:Func} {R:Ending→World→Prop} {a:Act} {w:World} {v:Value} {D1 D2:Nat} (hd:a.defers=[{ target:=.collected D2,args:=#[] },{ target:=.collected D1,args:=#[] }]) (hK2:w.heap[D2]? = some (.deferred (some []))) (hK1:w.heap[D1]? = some (.deferred (some []))) (hne:D1 ≠ D2) (hr:∀ w',(∀ b,b ≠ D1→b ≠ D2→w'.heap[b]? = w.heap[b]?)→(results fn a.tmps).run P w'=.ok v w') (hR:∀ w',w'.os=w.os→w'.tape=w.tape→w'.output=w.output→w'.heap.size=w.heap.size→(∀ b,b ≠ D1→b ≠ D2→w'.heap[b]? = w.heap[b]?)→R (.returned v) w'):bodyPostM Fence.wide n P fn R .ret a w:=by
 show LeavesInM _ _ _ _ _ _ a.defers _ _
 rw [hd]
 have hb:∀ b,b ≠ D1→b ≠ D2→((w.putObj D2 (.deferred none)).putObj D1 (.deferred none)).heap[b]? = w.heap[b]?:=fun b h1 h2=>(World.putObj_heap_other h1).trans (World.putObj_heap_other h2)
 refine ⟨by simp,.inl ⟨_,_,rfl,run_takeDeferred hK2,?_⟩⟩
 refine ⟨by simp,.inl ⟨_,_,rfl,run_takeDeferred (two_collected hK1 hne),?_⟩⟩
 exact ⟨v,hr _ hb,hR _ rfl rfl rfl (by simp) hb⟩
theorem moz_set {g:Nat} {u:Value} {V:World} : MoZ (fun b=>b=g) V (V.setCell ⟨g,0,none⟩ u):=⟨rfl,rfl,rfl,by simp [World.setCell],fun b _ hn=>Below.heap_setCell _ _ _ _ (fun e=>hn e)⟩
theorem moz_low {X:Nat→Prop} {wq A B:World} {N:Nat} (h:MoZ X wq A) (ht:Below N A B) (hN:wq.heap.size≤N):MoZ X wq B:=⟨ht.os.trans h.os,ht.tape.trans h.tape,ht.output.trans h.output,Nat.le_trans h.size ht.size,fun c hc hn=>(ht.block c (Nat.lt_of_lt_of_le hc hN)).trans (h.block c hc hn)⟩
theorem low_block {A B:World} {b:Nat} {o:Obj} (h:Below A.heap.size A B) (hA:A.heap[b]? = some o):B.heap[b]? = some o:=(h.block b (Array.getElem?_eq_some_iff.1 hA).1).trans hA
def BadAt {α:Type} (l:List α) (ok:α→Bool) (i:Nat):Prop:=∃ x,l[i]? = some x∧ok x=false
def OkTo {α:Type} (l:List α) (ok:α→Bool) (i:Nat):Prop:=∀ j x,j < i→l[j]? = some x→ok x=true
theorem OkTo.zero {α:Type} (l:List α) (ok:α→Bool):OkTo l ok 0:=fun j x hj=>absurd hj (by omega)
theorem OkTo.next {α:Type} {l:List α} {ok:α→Bool} {i:Nat} {x:α} (h:OkTo l ok i) (hx:l[i]? = some x) (hk:ok x=true):OkTo l ok (i+1):=fun j y hj hy=>by
 rcases Nat.lt_or_ge j i with hl|hl
 · exact h j y hl hy
 · obtain rfl:j=i:=by omega
   rw [hx] at hy
   obtain rfl:=Option.some.inj hy
   exact hk
theorem OkTo.all {α:Type} {l:List α} {ok:α→Bool} (h:OkTo l ok l.length):l.all ok=true:=all_upto (fun i x hx=>h i x (List.getElem?_eq_some_iff.1 hx).1 hx)
theorem BadAt.all {α:Type} {l:List α} {ok:α→Bool} {i:Nat} (h:BadAt l ok i):l.all ok=false:=by
 obtain ⟨x,hx,hk⟩:=h
 exact all_not hx hk
structure RgB (w wq:World) (B g1 g2:Nat) (S:SchT) (A:Option Addr) (k:Nat):Prop where
 low:Below w.heap.size w wq
 box:wq.heap[g1]? = some (.cells #[.slice A S.defs.length k,.string S.query,.string S.mutation] 24 (0,0))
 res:wq.heap[g2]? = some (.cells #[.bool false] 4 (0,0))
 le:w.heap.size≤g1∧w.heap.size≤g2∧B≤w.heap.size∧g1 ≠ g2
theorem RgB.next {w wq wr:World} {B g1 g2:Nat} {S:SchT} {A:Option Addr} {k:Nat} (h:RgB w wq B g1 g2 S A k) (hb:Below wq.heap.size wq wr):RgB w wr B g1 g2 S A k:=
 ⟨h.low.trans (hb.mono h.low.size),low_block hb h.box,low_block hb h.res,h.le⟩
theorem RgB.start {w:World} {B:Nat} {S:SchT} {A:Option Addr} {k:Nat} (hB:B≤w.heap.size):RgB w ((w.alloc (.cells #[.slice A S.defs.length k,.string S.query,.string S.mutation] 24)).alloc (.cells #[.bool false] 4)) B w.heap.size (w.heap.size+1) S A k:=
 ⟨tbl w _ _,(Below.heap_alloc _ _ _ (by simp)).trans (heap_alloc_new _ _),heap_two _ _ _,by omega⟩
theorem RgB.done {w wq V w':World} {B g1 g2:Nat} {S:SchT} {A:Option Addr} {k:Nat} (h:RgB w wq B g1 g2 S A k) (hm:MoZ (fun b=>b=g2) wq V) (e1:w'.os=V.os) (e2:w'.tape=V.tape) (e3:w'.output=V.output) (e4:w'.heap.size=V.heap.size) (hb:∀ b,b < w.heap.size→w'.heap[b]? = V.heap[b]?):Below w.heap.size w w':=by
 have hl:=h.low
 have hle:=h.le
 refine ⟨e1.trans (hm.os.trans hl.os),e2.trans (hm.tape.trans hl.tape),e3.trans (hm.output.trans hl.output),by rw [e4];exact Nat.le_trans hl.size hm.size,fun b hlt=>?_⟩
 exact ((hb b hlt).trans (hm.block b (Nat.lt_of_lt_of_le hlt hl.size) (by omega))).trans (hl.block b hlt)
attribute [local go_sem] Oper.semAt_some
def fit4F (D:List DefnT) (f:FieldT):Bool:=leafD D f.tn || compD D f.tn
def fit4P (D:List DefnT) (p:VarT):Bool:=entryD D p.tn
def rule4B (S:SchT):Bool:=(allF S.defs).all (fit4F S.defs) && (allPm S.defs).all (fit4P S.defs)
theorem rule4_any (S:SchT) (c0 c1 c2:Value) (w:World) (B:Nat) (hB:B≤w.heap.size) (hS:TS w (fun b=>b < B) (encSch S) [c0,c1,c2]) :
  Calls Tryz.prog 57 #[.agg #[c0,c1,c2]] w fun e w'=>e=.returned (.bool (rule4B S))∧Below w.heap.size w w':=by
 obtain ⟨A,k,e,hl,hR⟩:=sch_cells hS
 injection e with e0 e
 injection e with e1 e
 injection e with e2 e
 subst e0 e1 e2
 have HS:=Hd hS
 have HB:=Hd hB
 clear hS hB hR e
 refine callsIn_wide.1 (callsIn_of_wp_marks (F:=Fence.wide) (n:=3) Tryz.func57 rfl trivial ?_)
 simp only [Tryz.ntmps57,List.size_toArray,List.length_cons,List.length_nil,Nat.reduceAdd,Nat.reduceSub,Array.replicate_succ,Array.replicate_zero,List.push_toArray,List.append_toArray,List.nil_append,List.cons_append]
 refine wpIn_wide.2 ?_
 go_upto_region 1 with fail
 have Q1:=Hd (RgB.start (S:=S) (A:=A) (k:=k) HB.out)
 generalize (w.alloc (.cells #[.slice A S.defs.length k,.string S.query,.string S.mutation] 24)).alloc (.cells #[.bool false] 4)=w1 at Q1 ⊢
 obtain ⟨g1,hg1⟩:∃ g,w.heap.size=g:=⟨_,rfl⟩
 obtain ⟨g2,hg2⟩:∃ g,w.heap.size+1=g:=⟨_,rfl⟩
 have Q1:Hid (RgB w w1 B g1 g2 S A k):=Hd (by have h:=Q1.out;rw [hg2,hg1] at h;exact h)
 rw [hg2,hg1]
 clear hg1 hg2
 have FA1:=Hd (fun (wx:World)=>fields_any A S.defs.length k S.query S.mutation wx)
 obtain ⟨y0,y1,y2⟩:=three_cells Q1.out.box
 go_wp2_with fail
 refine (FA1.out _).mono ?_
 rintro e w2 ⟨rfl,hw⟩
 have hbw:Below w1.heap.size w1 w2:=by rw [hw];exact dbelow_new _ _
 have F1:Hid (w2.heap[w1.heap.size]? = some (.cells #[.slice A S.defs.length k,.string S.query,.string S.mutation] 24 (0,0))):=Hd (by rw [hw];exact heap_alloc_new _ _)
 have Q2:=Hd (Q1.out.next hbw)
 have hq1:w1.heap.size < w2.heap.size:=by rw [hw];simp
 have K1:=Hd hbw
 obtain ⟨ga,hga⟩:∃ g,w1.heap.size=g:=⟨_,rfl⟩
 rw [hga] at F1 hq1 ⊢
 clear hw hbw hga FA1 y0 y1 y2
 go_wp2_with fail
 refine (wpIn_wide (n:=3)).1 (wpIn_rangeFunc_y (F:=Fence.wide) rfl (by decide) (gf:=152) (lb:=#[.pointer (some ⟨ga,0,none⟩)]) rfl trivial (enters_of Tryz.func152 (by kernel_rfl) rfl)
  (allF S.defs).length (fun cs=>#[.agg cs.toArray]) (LiesF S.defs B) (Below (w2.heap.size+2)) (fun A B=>Below A.heap.size A B) (MoZ (fun b=>b=w2.heap.size+1)) (MoZ (fun b=>b < w2.heap.size+2)) (fun _=>rfl)
  (fun i V=>OkTo (allF S.defs) (fit4F S.defs) i∧Below w2.heap.size w2 V)
  (fun c i V=>c=.ret∧BadAt (allF S.defs) (fit4F S.defs) i∧V.cell? ⟨g2,0,none⟩=some (.bool false)∧MoZ (fun b=>b=g2) w2 V)
  ?hTl2 ?hIT2 ?hIxT2 ?hIr2 ?hIxr2 ?hRc2 ?hRXc2 ?h02 ?hseq2 ?hround2 ?hdone2 ?hstop2)
 case hTl2 =>
  intro a b ht c o hc ho
  exact (ht.block c (by omega)).trans ho
 case hIT2 =>
  rintro i a b ⟨h1,h2⟩ ht
  exact ⟨h1,h2.trans (ht.mono (by omega))⟩
 case hIxT2 =>
  rintro c i a b ⟨h1,h2,h3,h4⟩ ht
  have hgl:=(Array.getElem?_eq_some_iff.1 Q2.out.res).1
  exact ⟨h1,h2,(World.cell?_of_block (a:=⟨g2,0,none⟩) (ht.block g2 (by omega))).trans h3,moz_low h4 ht (by omega)⟩
 case hIr2 =>
  rintro i V o ⟨h1,h2⟩ hlt
  exact ⟨h1,low_put h2 (by omega) o⟩
 case hIxr2 =>
  rintro c i V o ⟨h1,h2,h3,h4⟩ hlt
  have hgl:=(Array.getElem?_eq_some_iff.1 Q2.out.res).1
  exact ⟨h1,h2,(World.cell?_of_block (a:=⟨g2,0,none⟩) (World.putObj_heap_other (by show g2 ≠ _;omega))).trans h3,moz_low h4 (low_put (Below.refl _ _) (Nat.le_succ _) o) (Nat.le_refl _)⟩
 case hRc2 =>
  rintro i V V1 V3 o o' _ hb hd hr
  exact ((MoZ.of_below hb).trans (MoZ.put (X:=fun b=>b=w2.heap.size+1) rfl o)).trans (hr.trans (MoZ.put (X:=fun b=>b=w2.heap.size+1) rfl o'))
 case hRXc2 =>
  rintro V V1 V3 o o' hb hd hr
  exact ((MoZ.of_below hb).trans (MoZ.put (by omega) o)).trans (hr.trans (MoZ.put (by omega) o'))
 case h02 =>
  intro W1 hb hs1
  exact ⟨OkTo.zero _ _,hb⟩
 case hseq2 =>
  intro W1 J' Jx' hb hs1 hJ' hJx' hY' hJ0'
  have hle:=Q2.out.le
  have hls:=Q2.out.low.size
  exact fields_in S ga B _ _ _ (fun b=>b=w2.heap.size+1) W1 (fun b hb'=>by subst hb';omega) (by omega) (low_block hb F1.out) (TS.low ((Q2.out.low.trans (hb.mono Q2.out.low.size)).mono HB.out) HS.out) (w2.heap.size+1) J' Jx' (fun i a b h ht=>hJ' i a b h (by rw [← hs1];exact ht)) (fun i a b h ht=>hJx' i a b h (by rw [← hs1];exact ht)) (fun i x V hi hj hL=>(hY' i x V hi hj hL).mono (fun e V' h=>by rw [← hs1] at h;exact h)) hJ0'
 case hround2 =>
  rintro i cs V hi ⟨h1,h2⟩ ⟨f,hx,hT⟩ hlt
  obtain ⟨Bp,jp,Bd,jd,rfl,HFC⟩:=fld_cells hT
  have e0:∀ z:List Value,(#[7].zip ((fun cs=>#[.agg cs.toArray]) z:Array Value))=#[(7,.agg z.toArray)]:=fun z=>by simp
  simp only [e0]
  have H1:=Hd h1
  clear h1
  gi_wp2
  have hb9:=dbelow_new V (.cells #[.string f.name,.slice Bp f.params.length jp,.string f.tn,.int .i64 f.tl,.int .i64 f.tm,.slice Bd f.dirs.length jd] 46)
  have i9:=heap_alloc_new V (.cells #[.string f.name,.slice Bp f.params.length jp,.string f.tn,.int .i64 f.tl,.int .i64 f.tm,.slice Bd f.dirs.length jd] 46)
  generalize V.alloc (.cells #[.string f.name,.slice Bp f.params.length jp,.string f.tn,.int .i64 f.tl,.int .i64 f.tm,.slice Bd f.dirs.length jd] 46)=V0 at hb9 i9 ⊢
  have hsv:=h2.size
  have hle:=Q2.out.le
  have hls:=Q2.out.low.size
  have hgl:=(Array.getElem?_eq_some_iff.1 Q2.out.res).1
  have hgl1:=(Array.getElem?_eq_some_iff.1 Q2.out.box).1
  refine ⟨hb9.mono (by omega),hb9,⟨H1.out,h2.trans (hb9.mono h2.size)⟩,fun o=>?_⟩
  have hs9:=hb9.size
  have i9p:=(World.putObj_heap_other (w:=V0) (r:=w2.heap.size+1) (o:=o) (show V.heap.size ≠ w2.heap.size+1 by omega)).trans i9
  have L1:Below w2.heap.size w2 (V0.putObj (w2.heap.size+1) o):=low_put (h2.trans (hb9.mono h2.size)) (by omega) o
  have T1:TS (V0.putObj (w2.heap.size+1) o) (fun b=>b < B) (encField f) [.string f.name,.slice Bp f.params.length jp,.string f.tn,.int .i64 f.tl,.int .i64 f.tm,.slice Bd f.dirs.length jd]:=TS.keep (fun b hb=>⟨hb,(World.putObj_heap_other (by omega)).trans (hb9.block b (by omega))⟩) _ _ hT
  have hs1:w2.heap.size+1 < (V0.putObj (w2.heap.size+1) o).heap.size:=by simp;omega
  generalize V0.putObj (w2.heap.size+1) o=V1 at i9p L1 T1 hs1 ⊢
  generalize V.heap.size=gb at i9p ⊢
  have QV:=Hd (Q2.out.next L1)
  have HT:=Hd T1
  have HX:=Hd hx
  have HL:=Hd L1
  have IB:=Hd i9p
  have hbV1:B≤V1.heap.size:=by omega
  have TSC:=Hd (TS.low (QV.out.low.mono HB.out) HS.out)
  clear h2 hx hT T1 L1 hb9 i9 i9p hs9 hlt hsv
  obtain ⟨u0,u1,u2⟩:=three_cells QV.out.box
  obtain ⟨⟨y0,y1,y2,y3,y4,y5⟩,_⟩:=six_cells IB.out
  have HOKE:Hid (fit4F S.defs f=(leafD S.defs f.tn || compD S.defs f.tn)):=Hd rfl
  have LF:=Hd (leaf_any S f.tn _ _ _ V1 B hbV1 HFC.1.2 TSC.out)
  obtain ⟨lf,hlf⟩:∃ b,leafD S.defs f.tn=b:=⟨_,rfl⟩
  rw [hlf] at LF HOKE
  clear hlf
  cases lf
  · gi_wp2
    refine ⟨trivial,(CallsIn.inRound _ (callsIn_wide.2 LF.out)).mono ?_⟩
    rintro e V2 ⟨rfl,hb⟩
    have B2:=Hd hb
    clear hb u0 u1 u2 y0 y1 y2 y3 y4 y5
    obtain ⟨u0,u1,u2⟩:=three_cells (low_block B2.out QV.out.box)
    obtain ⟨⟨y0,y1,y2,y3,y4,y5⟩,_⟩:=six_cells (low_block B2.out IB.out)
    have CM:=Hd (composite_any S f.tn _ _ _ V2 B (Nat.le_trans hbV1 B2.out.size) HFC.1.2 (TS.low (B2.out.mono hbV1) TSC.out))
    obtain ⟨cm,hcm⟩:∃ b,compD S.defs f.tn=b:=⟨_,rfl⟩
    rw [hcm] at CM HOKE
    clear hcm
    cases cm
    · gi_wp2
      refine ⟨trivial,(CallsIn.inRound _ (callsIn_wide.2 CM.out)).mono ?_⟩
      rintro e V3 ⟨rfl,hb⟩
      have B3:=Hd (B2.out.trans (hb.mono B2.out.size))
      clear hb u0 u1 u2 y0 y1 y2 y3 y4 y5
      obtain ⟨q0,q1⟩:=one_box (low_block B3.out QV.out.res)
      gi_wp2
      have hb:=B3.out
      first
       | exact ⟨⟨(Below.heap_setCell _ _ _ _ (by show _ ≠ g2;omega)).trans (hb.block _ hs1),(Below.heap_setCell _ _ _ _ (by show _ ≠ g2;omega)).trans (hb.block _ (by omega))⟩,⟨rfl,⟨_,HX.out,HOKE.out⟩,World.cell?_setCell_same' _ _ _ (by rw [q0];rfl),(MoZ.of_below (HL.out.trans (hb.mono HL.out.size))).trans moz_set⟩,(MoZ.of_below hb).trans (moz_set.mono (fun b hb'=>by show b < _;omega))⟩
       | exact ⟨⟨(Below.heap_setCell _ _ _ _ (by show _ ≠ g2;omega)).trans (hb.block _ hs1),(Below.heap_setCell _ _ _ _ (by show _ ≠ g2;omega)).trans (hb.block _ (by omega))⟩,rfl,⟨_,HX.out,HOKE.out⟩,World.cell?_setCell_same' _ _ _ (by rw [q0];rfl),(MoZ.of_below (HL.out.trans (hb.mono HL.out.size))).trans moz_set,(MoZ.of_below hb).trans (moz_set.mono (fun b hb'=>by show b < _;omega))⟩
    · gi_wp2
      refine ⟨trivial,(CallsIn.inRound _ (callsIn_wide.2 CM.out)).mono ?_⟩
      rintro e V3 ⟨rfl,hb⟩
      have B3:=Hd (B2.out.trans (hb.mono B2.out.size))
      clear hb u0 u1 u2 y0 y1 y2 y3 y4 y5
      gi_wp2
      have hb:=B3.out
      exact ⟨⟨hb.block _ hs1,hb.block _ (by omega)⟩,⟨H1.out.next HX.out (HOKE.out),HL.out.trans (hb.mono HL.out.size)⟩,MoZ.of_below hb⟩
  · gi_wp2
    refine ⟨trivial,(CallsIn.inRound _ (callsIn_wide.2 LF.out)).mono ?_⟩
    rintro e V2 ⟨rfl,hb⟩
    have B2:=Hd hb
    clear hb u0 u1 u2 y0 y1 y2 y3 y4 y5
    obtain ⟨u0,u1,u2⟩:=three_cells (low_block B2.out QV.out.box)
    obtain ⟨⟨y0,y1,y2,y3,y4,y5⟩,_⟩:=six_cells (low_block B2.out IB.out)
    gi_wp2
    refine ⟨trivial,?_⟩
    gi_wp2
    have hb:=B2.out
    exact ⟨⟨hb.block _ hs1,hb.block _ (by omega)⟩,⟨H1.out.next HX.out (HOKE.out),HL.out.trans (hb.mono HL.out.size)⟩,MoZ.of_below hb⟩
 case hdone2 =>
  rintro V ⟨h1,h2⟩ hK
  have Q3:=Hd (Q2.out.next h2)
  have HA1:=Hd h1
  have HK1:=Hd hK
  clear h1 h2 hK
  have FA3:=Hd (fun (wx:World)=>params_any A S.defs.length k S.query S.mutation wx)
  obtain ⟨y0,y1,y2⟩:=three_cells Q3.out.box
  go_wp2_with fail
  refine (FA3.out _).mono ?_
  rintro e w5 ⟨rfl,hw⟩
  have hbw:Below V.heap.size V w5:=by rw [hw];exact dbelow_new _ _
  have F3:Hid (w5.heap[V.heap.size]? = some (.cells #[.slice A S.defs.length k,.string S.query,.string S.mutation] 24 (0,0))):=Hd (by rw [hw];exact heap_alloc_new _ _)
  have Q4:=Hd (Q3.out.next hbw)
  have hq3:V.heap.size < w5.heap.size:=by rw [hw];simp
  have K3:=Hd hbw
  obtain ⟨gb,hgb⟩:∃ g,V.heap.size=g:=⟨_,rfl⟩
  rw [hgb] at F3 hq3 ⊢
  clear hw hbw hgb FA3 y0 y1 y2
  go_wp2_with fail
  have MK:=Hd (low_block K3.out HK1.out)
  refine (wpIn_wide (n:=3)).1 (wpIn_rangeFunc_y (F:=Fence.wide) rfl (by decide) (gf:=153) (lb:=#[.pointer (some ⟨gb,0,none⟩)]) rfl trivial (enters_of Tryz.func153 (by kernel_rfl) rfl)
    (allPm S.defs).length (fun cs=>#[.agg cs.toArray]) (LiesV S.defs B) (Below (w5.heap.size+2)) (fun A B=>Below A.heap.size A B) (MoZ (fun b=>b=w5.heap.size+1)) (MoZ (fun b=>b < w5.heap.size+2)) (fun _=>rfl)
    (fun i V=>OkTo (allPm S.defs) (fit4P S.defs) i∧Below w5.heap.size w5 V)
    (fun c i V=>c=.ret∧BadAt (allPm S.defs) (fit4P S.defs) i∧V.cell? ⟨g2,0,none⟩=some (.bool false)∧MoZ (fun b=>b=g2) w5 V)
    ?hTl4 ?hIT4 ?hIxT4 ?hIr4 ?hIxr4 ?hRc4 ?hRXc4 ?h04 ?hseq4 ?hround4 ?hdone4 ?hstop4)
  case hTl4 =>
    intro a b ht c o hc ho
    exact (ht.block c (by omega)).trans ho
  case hIT4 =>
    rintro i a b ⟨h1,h2⟩ ht
    exact ⟨h1,h2.trans (ht.mono (by omega))⟩
  case hIxT4 =>
    rintro c i a b ⟨h1,h2,h3,h4⟩ ht
    have hgl:=(Array.getElem?_eq_some_iff.1 Q4.out.res).1
    exact ⟨h1,h2,(World.cell?_of_block (a:=⟨g2,0,none⟩) (ht.block g2 (by omega))).trans h3,moz_low h4 ht (by omega)⟩
  case hIr4 =>
    rintro i V o ⟨h1,h2⟩ hlt
    exact ⟨h1,low_put h2 (by omega) o⟩
  case hIxr4 =>
    rintro c i V o ⟨h1,h2,h3,h4⟩ hlt
    have hgl:=(Array.getElem?_eq_some_iff.1 Q4.out.res).1
    exact ⟨h1,h2,(World.cell?_of_block (a:=⟨g2,0,none⟩) (World.putObj_heap_other (by show g2 ≠ _;omega))).trans h3,moz_low h4 (low_put (Below.refl _ _) (Nat.le_succ _) o) (Nat.le_refl _)⟩
  case hRc4 =>
    rintro i V V1 V3 o o' _ hb hd hr
    exact ((MoZ.of_below hb).trans (MoZ.put (X:=fun b=>b=w5.heap.size+1) rfl o)).trans (hr.trans (MoZ.put (X:=fun b=>b=w5.heap.size+1) rfl o'))
  case hRXc4 =>
    rintro V V1 V3 o o' hb hd hr
    exact ((MoZ.of_below hb).trans (MoZ.put (by omega) o)).trans (hr.trans (MoZ.put (by omega) o'))
  case h04 =>
    intro W1 hb hs1
    exact ⟨OkTo.zero _ _,hb⟩
  case hseq4 =>
    intro W1 J' Jx' hb hs1 hJ' hJx' hY' hJ0'
    have hle:=Q4.out.le
    have hls:=Q4.out.low.size
    exact params_in S gb B _ _ _ (fun b=>b=w5.heap.size+1) W1 (fun b hb'=>by subst hb';omega) (by omega) (low_block hb F3.out) (TS.low ((Q4.out.low.trans (hb.mono Q4.out.low.size)).mono HB.out) HS.out) (w5.heap.size+1) J' Jx' (fun i a b h ht=>hJ' i a b h (by rw [← hs1];exact ht)) (fun i a b h ht=>hJx' i a b h (by rw [← hs1];exact ht)) (fun i x V hi hj hL=>(hY' i x V hi hj hL).mono (fun e V' h=>by rw [← hs1] at h;exact h)) hJ0'
  case hround4 =>
    rintro i cs V hi ⟨h1,h2⟩ ⟨p,hx,hT⟩ hlt
    obtain ⟨E3,j3,E4,j4,rfl,HFC⟩:=var_cells hT
    have e0:∀ z:List Value,(#[24].zip ((fun cs=>#[.agg cs.toArray]) z:Array Value))=#[(24,.agg z.toArray)]:=fun z=>by simp
    simp only [e0]
    have H1:=Hd h1
    clear h1
    gi_wp2
    have hb9:=dbelow_new V (.cells #[.string p.name,.string p.tn,.int .i64 p.tl,.int .i64 p.tm,.bool p.has,.int .i64 p.v.kd,.int .i64 p.v.nn,.string p.v.ss,.slice E3 p.v.ls.len j3,.slice E4 p.v.ms.len j4] 60)
    have i9:=heap_alloc_new V (.cells #[.string p.name,.string p.tn,.int .i64 p.tl,.int .i64 p.tm,.bool p.has,.int .i64 p.v.kd,.int .i64 p.v.nn,.string p.v.ss,.slice E3 p.v.ls.len j3,.slice E4 p.v.ms.len j4] 60)
    generalize V.alloc (.cells #[.string p.name,.string p.tn,.int .i64 p.tl,.int .i64 p.tm,.bool p.has,.int .i64 p.v.kd,.int .i64 p.v.nn,.string p.v.ss,.slice E3 p.v.ls.len j3,.slice E4 p.v.ms.len j4] 60)=V0 at hb9 i9 ⊢
    have hsv:=h2.size
    have hle:=Q4.out.le
    have hls:=Q4.out.low.size
    have hgl:=(Array.getElem?_eq_some_iff.1 Q4.out.res).1
    have hgl1:=(Array.getElem?_eq_some_iff.1 Q4.out.box).1
    refine ⟨hb9.mono (by omega),hb9,⟨H1.out,h2.trans (hb9.mono h2.size)⟩,fun o=>?_⟩
    have hs9:=hb9.size
    have i9p:=(World.putObj_heap_other (w:=V0) (r:=w5.heap.size+1) (o:=o) (show V.heap.size ≠ w5.heap.size+1 by omega)).trans i9
    have L1:Below w5.heap.size w5 (V0.putObj (w5.heap.size+1) o):=low_put (h2.trans (hb9.mono h2.size)) (by omega) o
    have T1:TS (V0.putObj (w5.heap.size+1) o) (fun b=>b < B) (encVar p) [.string p.name,.string p.tn,.int .i64 p.tl,.int .i64 p.tm,.bool p.has,.int .i64 p.v.kd,.int .i64 p.v.nn,.string p.v.ss,.slice E3 p.v.ls.len j3,.slice E4 p.v.ms.len j4]:=TS.keep (fun b hb=>⟨hb,(World.putObj_heap_other (by omega)).trans (hb9.block b (by omega))⟩) _ _ hT
    have hs1:w5.heap.size+1 < (V0.putObj (w5.heap.size+1) o).heap.size:=by simp;omega
    generalize V0.putObj (w5.heap.size+1) o=V1 at i9p L1 T1 hs1 ⊢
    generalize V.heap.size=gb at i9p ⊢
    have QV:=Hd (Q4.out.next L1)
    have HT:=Hd T1
    have HX:=Hd hx
    have HL:=Hd L1
    have IB:=Hd i9p
    have hbV1:B≤V1.heap.size:=by omega
    have TSC:=Hd (TS.low (QV.out.low.mono HB.out) HS.out)
    clear h2 hx hT T1 L1 hb9 i9 i9p hs9 hlt hsv
    obtain ⟨u0,u1,u2⟩:=three_cells QV.out.box
    obtain ⟨⟨y0,y1,y2,y3,y4,y5,y6,y7,y8,y9⟩,_⟩:=ten_cells IB.out
    have HOKE:Hid (fit4P S.defs p=entryD S.defs p.tn):=Hd rfl
    have LF:=Hd (entry_any S p.tn _ _ _ V1 B hbV1 HFC.2 TSC.out)
    obtain ⟨lf,hlf⟩:∃ b,entryD S.defs p.tn=b:=⟨_,rfl⟩
    rw [hlf] at LF HOKE
    clear hlf
    cases lf
    · gi_wp2
      refine ⟨trivial,(CallsIn.inRound _ (callsIn_wide.2 LF.out)).mono ?_⟩
      rintro e V2 ⟨rfl,hb⟩
      have B2:=Hd hb
      clear hb u0 u1 u2 y0 y1 y2 y3 y4 y5 y6 y7 y8 y9
      obtain ⟨q0,q1⟩:=one_box (low_block B2.out QV.out.res)
      gi_wp2
      have hb:=B2.out
      first
       | exact ⟨⟨(Below.heap_setCell _ _ _ _ (by show _ ≠ g2;omega)).trans (hb.block _ hs1),(Below.heap_setCell _ _ _ _ (by show _ ≠ g2;omega)).trans (hb.block _ (by omega))⟩,⟨rfl,⟨_,HX.out,HOKE.out⟩,World.cell?_setCell_same' _ _ _ (by rw [q0];rfl),(MoZ.of_below (HL.out.trans (hb.mono HL.out.size))).trans moz_set⟩,(MoZ.of_below hb).trans (moz_set.mono (fun b hb'=>by show b < _;omega))⟩
       | exact ⟨⟨(Below.heap_setCell _ _ _ _ (by show _ ≠ g2;omega)).trans (hb.block _ hs1),(Below.heap_setCell _ _ _ _ (by show _ ≠ g2;omega)).trans (hb.block _ (by omega))⟩,rfl,⟨_,HX.out,HOKE.out⟩,World.cell?_setCell_same' _ _ _ (by rw [q0];rfl),(MoZ.of_below (HL.out.trans (hb.mono HL.out.size))).trans moz_set,(MoZ.of_below hb).trans (moz_set.mono (fun b hb'=>by show b < _;omega))⟩
    · gi_wp2
      refine ⟨trivial,(CallsIn.inRound _ (callsIn_wide.2 LF.out)).mono ?_⟩
      rintro e V2 ⟨rfl,hb⟩
      have B2:=Hd hb
      clear hb u0 u1 u2 y0 y1 y2 y3 y4 y5 y6 y7 y8 y9
      gi_wp2
      have hb:=B2.out
      exact ⟨⟨hb.block _ hs1,hb.block _ (by omega)⟩,⟨H1.out.next HX.out (HOKE.out),HL.out.trans (hb.mono HL.out.size)⟩,MoZ.of_below hb⟩
  case hdone4 =>
    rintro V ⟨h1,h2⟩ hK
    have HR:Hid (rule4B S=true):=Hd (by unfold rule4B;rw [HA1.out.all,h1.all];rfl)
    have HM:=Hd h2
    have HK:=Hd hK
    clear h1 h2 hK
    obtain ⟨q0,q1⟩:=one_box (low_block HM.out Q4.out.res)
    go_wp2_with fail
    have hgl:=(Array.getElem?_eq_some_iff.1 Q2.out.res).1
    have hls:=Q2.out.low.size
    have hd1:=(Array.getElem?_eq_some_iff.1 MK.out).1
    have hls4:=Q4.out.low.size
    have hc:=World.cell?_setCell_same' V ⟨g2,0,none⟩ (.bool true) (by rw [q0];rfl)
    refine postM_mark2 (D1:=w2.heap.size) (D2:=w5.heap.size) rfl ((Below.heap_setCell _ _ _ _ (by show w5.heap.size ≠ g2;omega)).trans HK.out) ((Below.heap_setCell _ _ _ _ (by show w2.heap.size ≠ g2;omega)).trans (low_block HM.out MK.out)) (by omega) (fun w' hb=>res_bool rfl rfl ((World.cell?_of_block (a:=⟨g2,0,none⟩) (hb g2 (by omega) (by omega))).trans hc)) (fun w' e1 e2 e3 e4 hb=>⟨by rw [HR.out],Q4.out.done ((MoZ.of_below HM.out).trans moz_set) e1 e2 e3 e4 (fun b hlt=>hb b (by omega) (by omega))⟩)
  case hstop4 =>
    rintro c i V hi ⟨rfl,hno,h3,h4⟩ hK
    refine wpIn_wide.2 ?_
    have HR:Hid (rule4B S=false):=Hd (by unfold rule4B;rw [hno.all,Bool.and_false])
    have HC:=Hd h3
    have HM:=Hd h4
    have HK:=Hd hK
    clear h3 h4 hno hK
    go_wp2_with fail
    have hgl:=(Array.getElem?_eq_some_iff.1 Q2.out.res).1
    have hls:=Q2.out.low.size
    have hd1:=(Array.getElem?_eq_some_iff.1 MK.out).1
    have hls4:=Q4.out.low.size
    refine postM_mark2 (D1:=w2.heap.size) (D2:=w5.heap.size) rfl HK.out (HM.out.heap MK.out (by omega)) (by omega) (fun w' hb=>res_bool rfl rfl ((World.cell?_of_block (a:=⟨g2,0,none⟩) (hb g2 (by omega) (by omega))).trans HC.out)) (fun w' e1 e2 e3 e4 hb=>⟨by rw [HR.out],Q4.out.done HM.out e1 e2 e3 e4 (fun b hlt=>hb b (by omega) (by omega))⟩)
 case hstop2 =>
  rintro c i V hi ⟨rfl,hno,h3,h4⟩ hK
  refine wpIn_wide.2 ?_
  have HR:Hid (rule4B S=false):=Hd (by unfold rule4B;rw [hno.all,Bool.false_and])
  have HC:=Hd h3
  have HM:=Hd h4
  have HK:=Hd hK
  clear h3 h4 hno hK
  go_wp2_with fail
  have hgl:=(Array.getElem?_eq_some_iff.1 Q2.out.res).1
  have hls:=Q2.out.low.size
  refine postM_mark (D:=w2.heap.size) rfl HK.out (fun w' hb=>res_bool rfl rfl ((World.cell?_of_block (a:=⟨g2,0,none⟩) (hb g2 (by omega))).trans HC.out)) (fun w' e1 e2 e3 e4 hb=>⟨by rw [HR.out],Q2.out.done HM.out e1 e2 e3 e4 (fun b hlt=>hb b (by omega))⟩)
end Go.Proofs.YtaekdfcpbepepaaGreatDoor
