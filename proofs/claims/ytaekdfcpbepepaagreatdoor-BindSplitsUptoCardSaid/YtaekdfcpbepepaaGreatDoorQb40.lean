/- schema's rule 3. (gen_rule3.py wrote it.) -/
import Derived.Test.YtaekdfcpbepepaaGreatDoorQb37
import Derived.Test.YtaekdfcpbepepaaGreatDoorQb39
set_option maxRecDepth 100000
set_option maxHeartbeats 8000000
namespace Go.Proofs.YtaekdfcpbepepaaGreatDoor
open Go.RowKit
attribute [local go_sem] Oper.semAt_some
def nam3D (d:DefnT):Bool:=diffB (d.fields.map fun x=>x.name) && (diffB (d.params.map fun x=>x.name) && (diffB (d.parts.map fun x=>x) && diffB (d.faces.map fun x=>x)))
def nam3F (f:FieldT):Bool:=!resB f.name && diffB (f.params.map fun x=>x.name)
def nam3P (p:VarT):Bool:=!resB p.name
def rule3B (S:SchT):Bool:=S.defs.all nam3D && (allF S.defs).all nam3F && (allPm S.defs).all nam3P
theorem fld_names {w:World} {P:Nat→Prop} {l:List FieldT} {A:Option Addr} (h:RowT w P (rowOf encField l) A):∀ x,x ∈ l→x.name.size≤maxLen:=by
 intro x hx
 obtain ⟨i,hi⟩:=List.getElem?_of_mem hx
 obtain ⟨_,_,_,_,_,_,hT⟩:=rowOf_at 6 len_fld h hi
 obtain ⟨_,_,_,_,_,⟨hsz,_⟩,_⟩:=fld_cells hT
 unfold maxLen
 omega
theorem rule3_any (S:SchT) (hz:SlimS S) (c0 c1 c2:Value) (w:World) (B:Nat) (hB:B≤w.heap.size) (hS:TS w (fun b=>b < B) (encSch S) [c0,c1,c2]) :
  Calls Tryz.prog 56 #[.agg #[c0,c1,c2]] w fun e w'=>e=.returned (.bool (rule3B S))∧Below w.heap.size w w':=by
 have HZF:Hid (∀ f,f ∈ allF S.defs→f.params.length < maxLen):=Hd (fun f hf=>by
  obtain ⟨d,hd,hfd⟩:=List.mem_flatMap.1 hf
  have:=((hz.2 d hd).2.2.2.2 f hfd).1
  unfold maxLen
  omega)
 have HZD:Hid (∀ d,d ∈ S.defs→d.fields.length < maxLen∧d.params.length < maxLen∧d.parts.length < maxLen∧d.faces.length < maxLen):=Hd (fun d hd=>by
  obtain ⟨h1,h2,h3,h4,_⟩:=hz.2 d hd
  unfold maxLen
  omega)
 obtain ⟨A,k,e,hl,hR⟩:=sch_cells hS
 injection e with e0 e
 injection e with e1 e
 injection e with e2 e
 subst e0 e1 e2
 have HS:=Hd hS
 have HB:=Hd hB
 have HR:=Hd hR
 clear hS hB hR e hz
 refine callsIn_wide.1 (callsIn_of_wp_marks (F:=Fence.wide) (n:=3) Tryz.func56 rfl trivial ?_)
 simp only [Tryz.ntmps56,List.size_toArray,List.length_cons,List.length_nil,Nat.reduceAdd,Nat.reduceSub,Array.replicate_succ,Array.replicate_zero,List.push_toArray,List.append_toArray,List.nil_append,List.cons_append]
 refine wpIn_wide.2 ?_
 go_upto_region 1 with fail
 have Q1:=Hd (RgB.start (S:=S) (A:=A) (k:=k) HB.out)
 generalize (w.alloc (.cells #[.slice A S.defs.length k,.string S.query,.string S.mutation] 24)).alloc (.cells #[.bool false] 4)=w1 at Q1 ⊢
 obtain ⟨g1,hg1⟩:∃ g,w.heap.size=g:=⟨_,rfl⟩
 obtain ⟨g2,hg2⟩:∃ g,w.heap.size+1=g:=⟨_,rfl⟩
 have Q1:Hid (RgB w w1 B g1 g2 S A k):=Hd (by have h:=Q1.out;rw [hg2,hg1] at h;exact h)
 rw [hg2,hg1]
 clear hg1 hg2
 obtain ⟨y0,y1,y2⟩:=three_cells Q1.out.box
 go_wp2_with fail
 clear y0 y1 y2
 go_loopg [10] S.defs.length (fun g i wx=>∃ q:Nat,q+g=S.defs.length∧i=.int .i64 q∧Aside ((S.defs.take q).all nam3D=true∧RgB w wx B g1 g2 S A k))
 case atStart=>exact ⟨0,by omega,rfl,Blk.Aside.intro ⟨rfl,Q1.out⟩⟩
 case round =>
  obtain ⟨q,hq,rfl,HX⟩:=hrel
  have HI:=Hd HX.out.1
  have QX:=Hd HX.out.2
  clear HX Q1
  cases gk with
  | zero =>
    obtain rfl:q=S.defs.length:=by omega
    have HA0:=Hd (all_take_end HI.out)
    have Q1:=QX
    clear QX
    have FA1:=Hd (fun (wx:World)=>fields_any A S.defs.length k S.query S.mutation wx)
    obtain ⟨y0,y1,y2⟩:=three_cells Q1.out.box
    go_wp2_with fail
    refine (FA1.out _).mono ?_
    rintro e w2 ⟨rfl,hw⟩
    have hbw:Below wr.heap.size wr w2:=by rw [hw];exact dbelow_new _ _
    have F1:Hid (w2.heap[wr.heap.size]? = some (.cells #[.slice A S.defs.length k,.string S.query,.string S.mutation] 24 (0,0))):=Hd (by rw [hw];exact heap_alloc_new _ _)
    have Q2:=Hd (Q1.out.next hbw)
    have hq1:wr.heap.size < w2.heap.size:=by rw [hw];simp
    have K1:=Hd hbw
    obtain ⟨ga,hga⟩:∃ g,wr.heap.size=g:=⟨_,rfl⟩
    rw [hga] at F1 hq1 ⊢
    clear hw hbw hga FA1 y0 y1 y2
    go_wp2_with fail
    refine (wpIn_wide (n:=3)).1 (wpIn_rangeFunc_y (F:=Fence.wide) rfl (by decide) (gf:=152) (lb:=#[.pointer (some ⟨ga,0,none⟩)]) rfl trivial (enters_of Tryz.func152 (by kernel_rfl) rfl)
      (allF S.defs).length (fun cs=>#[.agg cs.toArray]) (LiesF S.defs B) (Below (w2.heap.size+2)) (fun A B=>Below A.heap.size A B) (MoZ (fun b=>b=w2.heap.size+1)) (MoZ (fun b=>b < w2.heap.size+2)) (fun _=>rfl)
      (fun i V=>OkTo (allF S.defs) (nam3F) i∧Below w2.heap.size w2 V)
      (fun c i V=>c=.ret∧BadAt (allF S.defs) (nam3F) i∧V.cell? ⟨g2,0,none⟩=some (.bool false)∧MoZ (fun b=>b=g2) w2 V)
      ?hTl2 ?hIT2 ?hIxT2 ?hIr2 ?hIxr2 ?hRc2 ?hRXc2 ?h02 ?hseq2 ?hround2 ?hdone2 ?hstop2)
    case hTl2 =>
      intro a b ht c o hc ho
      exact (ht.block c (by omega)).trans ho
    case hIT2 =>
      rintro i a b ⟨h1,h2⟩ ht
      exact ⟨h1,h2.trans (ht.mono (by omega))⟩
    case hIxT2 =>
      rintro c i a b ⟨h1,h2,h3,h4⟩ ht
      have hgl:=(Array.getElem?_eq_some_iff.1 Q2.out.res).1
      exact ⟨h1,h2,(World.cell?_of_block (a:=⟨g2,0,none⟩) (ht.block g2 (by omega))).trans h3,moz_low h4 ht (by omega)⟩
    case hIr2 =>
      rintro i V o ⟨h1,h2⟩ hlt
      exact ⟨h1,low_put h2 (by omega) o⟩
    case hIxr2 =>
      rintro c i V o ⟨h1,h2,h3,h4⟩ hlt
      have hgl:=(Array.getElem?_eq_some_iff.1 Q2.out.res).1
      exact ⟨h1,h2,(World.cell?_of_block (a:=⟨g2,0,none⟩) (World.putObj_heap_other (by show g2 ≠ _;omega))).trans h3,moz_low h4 (low_put (Below.refl _ _) (Nat.le_succ _) o) (Nat.le_refl _)⟩
    case hRc2 =>
      rintro i V V1 V3 o o' _ hb hd hr
      exact ((MoZ.of_below hb).trans (MoZ.put (X:=fun b=>b=w2.heap.size+1) rfl o)).trans (hr.trans (MoZ.put (X:=fun b=>b=w2.heap.size+1) rfl o'))
    case hRXc2 =>
      rintro V V1 V3 o o' hb hd hr
      exact ((MoZ.of_below hb).trans (MoZ.put (by omega) o)).trans (hr.trans (MoZ.put (by omega) o'))
    case h02 =>
      intro W1 hb hs1
      exact ⟨OkTo.zero _ _,hb⟩
    case hseq2 =>
      intro W1 J' Jx' hb hs1 hJ' hJx' hY' hJ0'
      have hle:=Q2.out.le
      have hls:=Q2.out.low.size
      exact fields_in S ga B _ _ _ (fun b=>b=w2.heap.size+1) W1 (fun b hb'=>by subst hb';omega) (by omega) (low_block hb F1.out) (TS.low ((Q2.out.low.trans (hb.mono Q2.out.low.size)).mono HB.out) HS.out) (w2.heap.size+1) J' Jx' (fun i a b h ht=>hJ' i a b h (by rw [← hs1];exact ht)) (fun i a b h ht=>hJx' i a b h (by rw [← hs1];exact ht)) (fun i x V hi hj hL=>(hY' i x V hi hj hL).mono (fun e V' h=>by rw [← hs1] at h;exact h)) hJ0'
    case hround2 =>
      rintro i cs V hi ⟨h1,h2⟩ ⟨f,hx,hT⟩ hlt
      obtain ⟨Bp,jp,Bd,jd,rfl,HFC⟩:=fld_cells hT
      have e0:∀ z:List Value,(#[39].zip ((fun cs=>#[.agg cs.toArray]) z:Array Value))=#[(39,.agg z.toArray)]:=fun z=>by simp
      simp only [e0]
      have H1:=Hd h1
      clear h1
      gi_wp2
      have hb9:=dbelow_new V (.cells #[.string f.name,.slice Bp f.params.length jp,.string f.tn,.int .i64 f.tl,.int .i64 f.tm,.slice Bd f.dirs.length jd] 46)
      have i9:=heap_alloc_new V (.cells #[.string f.name,.slice Bp f.params.length jp,.string f.tn,.int .i64 f.tl,.int .i64 f.tm,.slice Bd f.dirs.length jd] 46)
      generalize V.alloc (.cells #[.string f.name,.slice Bp f.params.length jp,.string f.tn,.int .i64 f.tl,.int .i64 f.tm,.slice Bd f.dirs.length jd] 46)=V0 at hb9 i9 ⊢
      have hsv:=h2.size
      have hle:=Q2.out.le
      have hls:=Q2.out.low.size
      have hgl:=(Array.getElem?_eq_some_iff.1 Q2.out.res).1
      have hgl1:=(Array.getElem?_eq_some_iff.1 Q2.out.box).1
      refine ⟨hb9.mono (by omega),hb9,⟨H1.out,h2.trans (hb9.mono h2.size)⟩,fun o=>?_⟩
      have hs9:=hb9.size
      have i9p:=(World.putObj_heap_other (w:=V0) (r:=w2.heap.size+1) (o:=o) (show V.heap.size ≠ w2.heap.size+1 by omega)).trans i9
      have L1:Below w2.heap.size w2 (V0.putObj (w2.heap.size+1) o):=low_put (h2.trans (hb9.mono h2.size)) (by omega) o
      have T1:TS (V0.putObj (w2.heap.size+1) o) (fun b=>b < B) (encField f) [.string f.name,.slice Bp f.params.length jp,.string f.tn,.int .i64 f.tl,.int .i64 f.tm,.slice Bd f.dirs.length jd]:=TS.keep (fun b hb=>⟨hb,(World.putObj_heap_other (by omega)).trans (hb9.block b (by omega))⟩) _ _ hT
      have hs1:w2.heap.size+1 < (V0.putObj (w2.heap.size+1) o).heap.size:=by simp;omega
      generalize V0.putObj (w2.heap.size+1) o=V1 at i9p L1 T1 hs1 ⊢
      generalize V.heap.size=gb at i9p ⊢
      have QV:=Hd (Q2.out.next L1)
      have HT:=Hd T1
      have HX:=Hd hx
      have HL:=Hd L1
      have IB:=Hd i9p
      have hbV1:B≤V1.heap.size:=by omega
      have TSC:=Hd (TS.low (QV.out.low.mono HB.out) HS.out)
      clear h2 hx hT T1 L1 hb9 i9 i9p hs9 hlt hsv
      obtain ⟨u0,u1,u2⟩:=three_cells QV.out.box
      obtain ⟨⟨y0,y1,y2,y3,y4,y5⟩,_⟩:=six_cells IB.out
      have HOKE:Hid (nam3F f=(!resB f.name && diffB (f.params.map fun x=>x.name))):=Hd rfl
      obtain ⟨_,_,_,_,eq,_,⟨hpl,hp1⟩,_⟩:=fld_cells HT.out
      simp only [List.cons.injEq,Value.slice.injEq,and_true,true_and] at eq
      obtain ⟨⟨rfl,rfl⟩,rfl,rfl⟩:=eq
      have HP:=Hd hp1
      have HFZ:=Hd (HZF.out f (List.mem_of_getElem? HX.out))
      clear hp1 hpl
      have RE:=Hd (reserved_any f.name V1)
      obtain ⟨rb,hrb⟩:∃ b,resB f.name=b:=⟨_,rfl⟩
      rw [hrb] at RE HOKE
      clear hrb
      cases rb
      · gi_wp2
        refine ⟨trivial,(CallsIn.inRound _ (callsIn_wide.2 RE.out)).mono ?_⟩
        rintro e V2 ⟨rfl,hb⟩
        have B2:=Hd hb
        clear hb u0 u1 u2 y0 y1 y2 y3 y4 y5
        obtain ⟨u0,u1,u2⟩:=three_cells (low_block B2.out QV.out.box)
        obtain ⟨⟨y0,y1,y2,y3,y4,y5⟩,_⟩:=six_cells (low_block B2.out IB.out)
        have CM:=Hd (differPar_any f.params Bp jp V2 B (Nat.le_trans hbV1 B2.out.size) HFZ.out (RowT.below (B2.out.mono hbV1) HP.out) (par_names HP.out))
        obtain ⟨cm,hcm⟩:∃ b,diffB (f.params.map fun x=>x.name)=b:=⟨_,rfl⟩
        rw [hcm] at CM HOKE
        clear hcm
        cases cm
        · gi_wp2
          refine ⟨trivial,(CallsIn.inRound _ (callsIn_wide.2 CM.out)).mono ?_⟩
          rintro e V3 ⟨rfl,hb⟩
          have B3:=Hd (B2.out.trans (hb.mono B2.out.size))
          clear hb u0 u1 u2 y0 y1 y2 y3 y4 y5
          obtain ⟨q0,q1⟩:=one_box (low_block B3.out QV.out.res)
          gi_wp2
          have hb:=B3.out
          first
            | exact ⟨⟨(Below.heap_setCell _ _ _ _ (by show _ ≠ g2;omega)).trans (hb.block _ hs1),(Below.heap_setCell _ _ _ _ (by show _ ≠ g2;omega)).trans (hb.block _ (by omega))⟩,⟨rfl,⟨_,HX.out,HOKE.out⟩,World.cell?_setCell_same' _ _ _ (by rw [q0];rfl),(MoZ.of_below (HL.out.trans (hb.mono HL.out.size))).trans moz_set⟩,(MoZ.of_below hb).trans (moz_set.mono (fun b hb'=>by show b < _;omega))⟩
            | exact ⟨⟨(Below.heap_setCell _ _ _ _ (by show _ ≠ g2;omega)).trans (hb.block _ hs1),(Below.heap_setCell _ _ _ _ (by show _ ≠ g2;omega)).trans (hb.block _ (by omega))⟩,rfl,⟨_,HX.out,HOKE.out⟩,World.cell?_setCell_same' _ _ _ (by rw [q0];rfl),(MoZ.of_below (HL.out.trans (hb.mono HL.out.size))).trans moz_set,(MoZ.of_below hb).trans (moz_set.mono (fun b hb'=>by show b < _;omega))⟩
        · gi_wp2
          refine ⟨trivial,(CallsIn.inRound _ (callsIn_wide.2 CM.out)).mono ?_⟩
          rintro e V3 ⟨rfl,hb⟩
          have B3:=Hd (B2.out.trans (hb.mono B2.out.size))
          clear hb u0 u1 u2 y0 y1 y2 y3 y4 y5
          gi_wp2
          have hb:=B3.out
          exact ⟨⟨hb.block _ hs1,hb.block _ (by omega)⟩,⟨H1.out.next HX.out (HOKE.out),HL.out.trans (hb.mono HL.out.size)⟩,MoZ.of_below hb⟩
      · gi_wp2
        refine ⟨trivial,(CallsIn.inRound _ (callsIn_wide.2 RE.out)).mono ?_⟩
        rintro e V2 ⟨rfl,hb⟩
        have B2:=Hd hb
        clear hb u0 u1 u2 y0 y1 y2 y3 y4 y5
        obtain ⟨u0,u1,u2⟩:=three_cells (low_block B2.out QV.out.box)
        obtain ⟨⟨y0,y1,y2,y3,y4,y5⟩,_⟩:=six_cells (low_block B2.out IB.out)
        obtain ⟨q0,q1⟩:=one_box (low_block B2.out QV.out.res)
        gi_wp2
        refine ⟨trivial,?_⟩
        gi_wp2
        have hb:=B2.out
        first
          | exact ⟨⟨(Below.heap_setCell _ _ _ _ (by show _ ≠ g2;omega)).trans (hb.block _ hs1),(Below.heap_setCell _ _ _ _ (by show _ ≠ g2;omega)).trans (hb.block _ (by omega))⟩,⟨rfl,⟨_,HX.out,HOKE.out⟩,World.cell?_setCell_same' _ _ _ (by rw [q0];rfl),(MoZ.of_below (HL.out.trans (hb.mono HL.out.size))).trans moz_set⟩,(MoZ.of_below hb).trans (moz_set.mono (fun b hb'=>by show b < _;omega))⟩
          | exact ⟨⟨(Below.heap_setCell _ _ _ _ (by show _ ≠ g2;omega)).trans (hb.block _ hs1),(Below.heap_setCell _ _ _ _ (by show _ ≠ g2;omega)).trans (hb.block _ (by omega))⟩,rfl,⟨_,HX.out,HOKE.out⟩,World.cell?_setCell_same' _ _ _ (by rw [q0];rfl),(MoZ.of_below (HL.out.trans (hb.mono HL.out.size))).trans moz_set,(MoZ.of_below hb).trans (moz_set.mono (fun b hb'=>by show b < _;omega))⟩
    case hdone2 =>
      rintro V ⟨h1,h2⟩ hK
      have Q3:=Hd (Q2.out.next h2)
      have HA1:=Hd h1
      have HK1:=Hd hK
      clear h1 h2 hK
      have FA3:=Hd (fun (wx:World)=>params_any A S.defs.length k S.query S.mutation wx)
      obtain ⟨y0,y1,y2⟩:=three_cells Q3.out.box
      go_wp2_with fail
      refine (FA3.out _).mono ?_
      rintro e w5 ⟨rfl,hw⟩
      have hbw:Below V.heap.size V w5:=by rw [hw];exact dbelow_new _ _
      have F3:Hid (w5.heap[V.heap.size]? = some (.cells #[.slice A S.defs.length k,.string S.query,.string S.mutation] 24 (0,0))):=Hd (by rw [hw];exact heap_alloc_new _ _)
      have Q4:=Hd (Q3.out.next hbw)
      have hq3:V.heap.size < w5.heap.size:=by rw [hw];simp
      have K3:=Hd hbw
      obtain ⟨gb,hgb⟩:∃ g,V.heap.size=g:=⟨_,rfl⟩
      rw [hgb] at F3 hq3 ⊢
      clear hw hbw hgb FA3 y0 y1 y2
      go_wp2_with fail
      have MK:=Hd (low_block K3.out HK1.out)
      refine (wpIn_wide (n:=3)).1 (wpIn_rangeFunc_y (F:=Fence.wide) rfl (by decide) (gf:=153) (lb:=#[.pointer (some ⟨gb,0,none⟩)]) rfl trivial (enters_of Tryz.func153 (by kernel_rfl) rfl)
        (allPm S.defs).length (fun cs=>#[.agg cs.toArray]) (LiesV S.defs B) (Below (w5.heap.size+2)) (fun A B=>Below A.heap.size A B) (MoZ (fun b=>b=w5.heap.size+1)) (MoZ (fun b=>b < w5.heap.size+2)) (fun _=>rfl)
        (fun i V=>OkTo (allPm S.defs) (nam3P) i∧Below w5.heap.size w5 V)
        (fun c i V=>c=.ret∧BadAt (allPm S.defs) (nam3P) i∧V.cell? ⟨g2,0,none⟩=some (.bool false)∧MoZ (fun b=>b=g2) w5 V)
        ?hTl4 ?hIT4 ?hIxT4 ?hIr4 ?hIxr4 ?hRc4 ?hRXc4 ?h04 ?hseq4 ?hround4 ?hdone4 ?hstop4)
      case hTl4 =>
        intro a b ht c o hc ho
        exact (ht.block c (by omega)).trans ho
      case hIT4 =>
        rintro i a b ⟨h1,h2⟩ ht
        exact ⟨h1,h2.trans (ht.mono (by omega))⟩
      case hIxT4 =>
        rintro c i a b ⟨h1,h2,h3,h4⟩ ht
        have hgl:=(Array.getElem?_eq_some_iff.1 Q4.out.res).1
        exact ⟨h1,h2,(World.cell?_of_block (a:=⟨g2,0,none⟩) (ht.block g2 (by omega))).trans h3,moz_low h4 ht (by omega)⟩
      case hIr4 =>
        rintro i V o ⟨h1,h2⟩ hlt
        exact ⟨h1,low_put h2 (by omega) o⟩
      case hIxr4 =>
        rintro c i V o ⟨h1,h2,h3,h4⟩ hlt
        have hgl:=(Array.getElem?_eq_some_iff.1 Q4.out.res).1
        exact ⟨h1,h2,(World.cell?_of_block (a:=⟨g2,0,none⟩) (World.putObj_heap_other (by show g2 ≠ _;omega))).trans h3,moz_low h4 (low_put (Below.refl _ _) (Nat.le_succ _) o) (Nat.le_refl _)⟩
      case hRc4 =>
        rintro i V V1 V3 o o' _ hb hd hr
        exact ((MoZ.of_below hb).trans (MoZ.put (X:=fun b=>b=w5.heap.size+1) rfl o)).trans (hr.trans (MoZ.put (X:=fun b=>b=w5.heap.size+1) rfl o'))
      case hRXc4 =>
        rintro V V1 V3 o o' hb hd hr
        exact ((MoZ.of_below hb).trans (MoZ.put (by omega) o)).trans (hr.trans (MoZ.put (by omega) o'))
      case h04 =>
        intro W1 hb hs1
        exact ⟨OkTo.zero _ _,hb⟩
      case hseq4 =>
        intro W1 J' Jx' hb hs1 hJ' hJx' hY' hJ0'
        have hle:=Q4.out.le
        have hls:=Q4.out.low.size
        exact params_in S gb B _ _ _ (fun b=>b=w5.heap.size+1) W1 (fun b hb'=>by subst hb';omega) (by omega) (low_block hb F3.out) (TS.low ((Q4.out.low.trans (hb.mono Q4.out.low.size)).mono HB.out) HS.out) (w5.heap.size+1) J' Jx' (fun i a b h ht=>hJ' i a b h (by rw [← hs1];exact ht)) (fun i a b h ht=>hJx' i a b h (by rw [← hs1];exact ht)) (fun i x V hi hj hL=>(hY' i x V hi hj hL).mono (fun e V' h=>by rw [← hs1] at h;exact h)) hJ0'
      case hround4 =>
        rintro i cs V hi ⟨h1,h2⟩ ⟨p,hx,hT⟩ hlt
        obtain ⟨E3,j3,E4,j4,rfl,HFC⟩:=var_cells hT
        have e0:∀ z:List Value,(#[51].zip ((fun cs=>#[.agg cs.toArray]) z:Array Value))=#[(51,.agg z.toArray)]:=fun z=>by simp
        simp only [e0]
        have H1:=Hd h1
        clear h1
        gi_wp2
        have hb9:=dbelow_new V (.cells #[.string p.name,.string p.tn,.int .i64 p.tl,.int .i64 p.tm,.bool p.has,.int .i64 p.v.kd,.int .i64 p.v.nn,.string p.v.ss,.slice E3 p.v.ls.len j3,.slice E4 p.v.ms.len j4] 60)
        have i9:=heap_alloc_new V (.cells #[.string p.name,.string p.tn,.int .i64 p.tl,.int .i64 p.tm,.bool p.has,.int .i64 p.v.kd,.int .i64 p.v.nn,.string p.v.ss,.slice E3 p.v.ls.len j3,.slice E4 p.v.ms.len j4] 60)
        generalize V.alloc (.cells #[.string p.name,.string p.tn,.int .i64 p.tl,.int .i64 p.tm,.bool p.has,.int .i64 p.v.kd,.int .i64 p.v.nn,.string p.v.ss,.slice E3 p.v.ls.len j3,.slice E4 p.v.ms.len j4] 60)=V0 at hb9 i9 ⊢
        have hsv:=h2.size
        have hle:=Q4.out.le
        have hls:=Q4.out.low.size
        have hgl:=(Array.getElem?_eq_some_iff.1 Q4.out.res).1
        have hgl1:=(Array.getElem?_eq_some_iff.1 Q4.out.box).1
        refine ⟨hb9.mono (by omega),hb9,⟨H1.out,h2.trans (hb9.mono h2.size)⟩,fun o=>?_⟩
        have hs9:=hb9.size
        have i9p:=(World.putObj_heap_other (w:=V0) (r:=w5.heap.size+1) (o:=o) (show V.heap.size ≠ w5.heap.size+1 by omega)).trans i9
        have L1:Below w5.heap.size w5 (V0.putObj (w5.heap.size+1) o):=low_put (h2.trans (hb9.mono h2.size)) (by omega) o
        have T1:TS (V0.putObj (w5.heap.size+1) o) (fun b=>b < B) (encVar p) [.string p.name,.string p.tn,.int .i64 p.tl,.int .i64 p.tm,.bool p.has,.int .i64 p.v.kd,.int .i64 p.v.nn,.string p.v.ss,.slice E3 p.v.ls.len j3,.slice E4 p.v.ms.len j4]:=TS.keep (fun b hb=>⟨hb,(World.putObj_heap_other (by omega)).trans (hb9.block b (by omega))⟩) _ _ hT
        have hs1:w5.heap.size+1 < (V0.putObj (w5.heap.size+1) o).heap.size:=by simp;omega
        generalize V0.putObj (w5.heap.size+1) o=V1 at i9p L1 T1 hs1 ⊢
        generalize V.heap.size=gb at i9p ⊢
        have QV:=Hd (Q4.out.next L1)
        have HT:=Hd T1
        have HX:=Hd hx
        have HL:=Hd L1
        have IB:=Hd i9p
        have hbV1:B≤V1.heap.size:=by omega
        have TSC:=Hd (TS.low (QV.out.low.mono HB.out) HS.out)
        clear h2 hx hT T1 L1 hb9 i9 i9p hs9 hlt hsv
        obtain ⟨u0,u1,u2⟩:=three_cells QV.out.box
        obtain ⟨⟨y0,y1,y2,y3,y4,y5,y6,y7,y8,y9⟩,_⟩:=ten_cells IB.out
        have HOKE:Hid (nam3P p = !resB p.name):=Hd rfl
        have RE:=Hd (reserved_any p.name V1)
        obtain ⟨rb,hrb⟩:∃ b,resB p.name=b:=⟨_,rfl⟩
        rw [hrb] at RE HOKE
        clear hrb
        cases rb
        · gi_wp2
          refine ⟨trivial,(CallsIn.inRound _ (callsIn_wide.2 RE.out)).mono ?_⟩
          rintro e V2 ⟨rfl,hb⟩
          have B2:=Hd hb
          clear hb u0 u1 u2 y0 y1 y2 y3 y4 y5 y6 y7 y8 y9
          gi_wp2
          have hb:=B2.out
          exact ⟨⟨hb.block _ hs1,hb.block _ (by omega)⟩,⟨H1.out.next HX.out (HOKE.out),HL.out.trans (hb.mono HL.out.size)⟩,MoZ.of_below hb⟩
        · gi_wp2
          refine ⟨trivial,(CallsIn.inRound _ (callsIn_wide.2 RE.out)).mono ?_⟩
          rintro e V2 ⟨rfl,hb⟩
          have B2:=Hd hb
          clear hb u0 u1 u2 y0 y1 y2 y3 y4 y5 y6 y7 y8 y9
          obtain ⟨q0,q1⟩:=one_box (low_block B2.out QV.out.res)
          gi_wp2
          have hb:=B2.out
          first
            | exact ⟨⟨(Below.heap_setCell _ _ _ _ (by show _ ≠ g2;omega)).trans (hb.block _ hs1),(Below.heap_setCell _ _ _ _ (by show _ ≠ g2;omega)).trans (hb.block _ (by omega))⟩,⟨rfl,⟨_,HX.out,HOKE.out⟩,World.cell?_setCell_same' _ _ _ (by rw [q0];rfl),(MoZ.of_below (HL.out.trans (hb.mono HL.out.size))).trans moz_set⟩,(MoZ.of_below hb).trans (moz_set.mono (fun b hb'=>by show b < _;omega))⟩
            | exact ⟨⟨(Below.heap_setCell _ _ _ _ (by show _ ≠ g2;omega)).trans (hb.block _ hs1),(Below.heap_setCell _ _ _ _ (by show _ ≠ g2;omega)).trans (hb.block _ (by omega))⟩,rfl,⟨_,HX.out,HOKE.out⟩,World.cell?_setCell_same' _ _ _ (by rw [q0];rfl),(MoZ.of_below (HL.out.trans (hb.mono HL.out.size))).trans moz_set,(MoZ.of_below hb).trans (moz_set.mono (fun b hb'=>by show b < _;omega))⟩
      case hdone4 =>
        rintro V ⟨h1,h2⟩ hK
        have HR:Hid (rule3B S=true):=Hd (by unfold rule3B;rw [HA0.out,HA1.out.all,h1.all];rfl)
        have HM:=Hd h2
        have HK:=Hd hK
        clear h1 h2 hK
        obtain ⟨q0,q1⟩:=one_box (low_block HM.out Q4.out.res)
        go_wp2_with fail
        have hgl:=(Array.getElem?_eq_some_iff.1 Q2.out.res).1
        have hls:=Q2.out.low.size
        have hd1:=(Array.getElem?_eq_some_iff.1 MK.out).1
        have hls4:=Q4.out.low.size
        have hc:=World.cell?_setCell_same' V ⟨g2,0,none⟩ (.bool true) (by rw [q0];rfl)
        refine postM_mark2 (D1:=w2.heap.size) (D2:=w5.heap.size) rfl ((Below.heap_setCell _ _ _ _ (by show w5.heap.size ≠ g2;omega)).trans HK.out) ((Below.heap_setCell _ _ _ _ (by show w2.heap.size ≠ g2;omega)).trans (low_block HM.out MK.out)) (by omega) (fun w' hb=>res_bool rfl rfl ((World.cell?_of_block (a:=⟨g2,0,none⟩) (hb g2 (by omega) (by omega))).trans hc)) (fun w' e1 e2 e3 e4 hb=>⟨by rw [HR.out],Q4.out.done ((MoZ.of_below HM.out).trans moz_set) e1 e2 e3 e4 (fun b hlt=>hb b (by omega) (by omega))⟩)
      case hstop4 =>
        rintro c i V hi ⟨rfl,hno,h3,h4⟩ hK
        refine wpIn_wide.2 ?_
        have HR:Hid (rule3B S=false):=Hd (by unfold rule3B;rw [hno.all,Bool.and_false])
        have HC:=Hd h3
        have HM:=Hd h4
        have HK:=Hd hK
        clear h3 h4 hno hK
        go_wp2_with fail
        have hgl:=(Array.getElem?_eq_some_iff.1 Q2.out.res).1
        have hls:=Q2.out.low.size
        have hd1:=(Array.getElem?_eq_some_iff.1 MK.out).1
        have hls4:=Q4.out.low.size
        refine postM_mark2 (D1:=w2.heap.size) (D2:=w5.heap.size) rfl HK.out (HM.out.heap MK.out (by omega)) (by omega) (fun w' hb=>res_bool rfl rfl ((World.cell?_of_block (a:=⟨g2,0,none⟩) (hb g2 (by omega) (by omega))).trans HC.out)) (fun w' e1 e2 e3 e4 hb=>⟨by rw [HR.out],Q4.out.done HM.out e1 e2 e3 e4 (fun b hlt=>hb b (by omega) (by omega))⟩)
    case hstop2 =>
      rintro c i V hi ⟨rfl,hno,h3,h4⟩ hK
      refine wpIn_wide.2 ?_
      have HR:Hid (rule3B S=false):=Hd (by unfold rule3B;rw [hno.all,Bool.and_false,Bool.false_and])
      have HC:=Hd h3
      have HM:=Hd h4
      have HK:=Hd hK
      clear h3 h4 hno hK
      go_wp2_with fail
      have hgl:=(Array.getElem?_eq_some_iff.1 Q2.out.res).1
      have hls:=Q2.out.low.size
      refine postM_mark (D:=w2.heap.size) rfl HK.out (fun w' hb=>res_bool rfl rfl ((World.cell?_of_block (a:=⟨g2,0,none⟩) (hb g2 (by omega))).trans HC.out)) (fun w' e1 e2 e3 e4 hb=>⟨by rw [HR.out],Q2.out.done HM.out e1 e2 e3 e4 (fun b hlt=>hb b (by omega))⟩)
  | succ g =>
    have hqn:q < S.defs.length:=by omega
    have hqn':(q:Int) < (S.defs.length:Int):=by omega
    obtain ⟨d,hx⟩:∃ x,S.defs[q]? = some x:=⟨_,List.getElem?_eq_getElem hqn⟩
    have HDZ:=Hd (HZD.out d (List.mem_of_getElem? hx))
    obtain ⟨b,o,cs,rfl,hb,hc,hT⟩:=rowOf_at 6 defn_len HR.out hx
    have HBL:=Hd (Nat.lt_of_lt_of_le hb HB.out)
    obtain ⟨Af,kf,Ax,kx,Ap,kp,Am,km,rfl,_,⟨_,hfa⟩,⟨_,hff⟩,⟨_,hfp⟩,_,hfm⟩:=defn_cells hT
    have g0:=(QX.out.low.cell (p:=⟨b,o+q*6,none⟩) HBL.out).trans (hc 0 _ rfl)
    have x1:=(QX.out.low.cell (p:=⟨b,o+q*6+1,none⟩) HBL.out).trans (hc 1 _ rfl)
    have x2:=(QX.out.low.cell (p:=⟨b,o+q*6+2,none⟩) HBL.out).trans (hc 2 _ rfl)
    have g3:=(QX.out.low.cell (p:=⟨b,o+q*6+3,none⟩) HBL.out).trans (hc 3 _ rfl)
    have g4:=(QX.out.low.cell (p:=⟨b,o+q*6+4,none⟩) HBL.out).trans (hc 4 _ rfl)
    have g5:=(QX.out.low.cell (p:=⟨b,o+q*6+5,none⟩) HBL.out).trans (hc 5 _ rfl)
    have HYE:=Hd (fun h=>all_take_next (p:=nam3D) HI.out hx h)
    have HNO:=Hd (fun h=>all_take_no (p:=nam3D) hx h)
    have HU:Hid (nam3D d=(diffB (d.fields.map fun x=>x.name) && (diffB (d.params.map fun x=>x.name) && (diffB (d.parts.map fun x=>x) && diffB (d.faces.map fun x=>x))))):=Hd rfl
    generalize nam3D d=ud at HYE HNO HU
    have HPA:=Hd hfa
    have HPF:=Hd hff
    have HPP:=Hd hfp
    have HPM:=Hd hfm
    clear hx hb hc hT hfa hff hfp hfm
    go_upto_region 4 with fail
    clear g0 x1 x2 g3 g4 g5
    have bn:=dbelow_new wr (.cells #[.int .i64 d.kind,.string d.name,.slice Af d.faces.length kf,.slice Ax d.fields.length kx,.slice Ap d.parts.length kp,.slice Am d.params.length km] 37)
    have QN:=Hd (QX.out.next bn)
    have YN:=Hd (heap_alloc_new wr (.cells #[.int .i64 d.kind,.string d.name,.slice Af d.faces.length kf,.slice Ax d.fields.length kx,.slice Ap d.parts.length kp,.slice Am d.params.length km] 37))
    generalize wr.alloc (.cells #[.int .i64 d.kind,.string d.name,.slice Af d.faces.length kf,.slice Ax d.fields.length kx,.slice Ap d.parts.length kp,.slice Am d.params.length km] 37)=v0 at QN YN ⊢
    generalize wr.heap.size=gd at YN ⊢
    clear bn QX
    obtain ⟨⟨y0,y1,y2,y3,y4,y5⟩,_⟩:=six_cells YN.out
    have CC:=Hd (differFld_any d.fields Ax kx v0 B (Nat.le_trans HB.out QN.out.low.size) HDZ.out.1 (RowT.below (QN.out.low.mono HB.out) HPF.out) (fld_names HPF.out))
    obtain ⟨df,hdf⟩:∃ b,diffB (d.fields.map fun x=>x.name)=b:=⟨_,rfl⟩
    rw [hdf] at CC HU
    clear hdf
    cases df with
    | false =>
      go_wp2_with fail
      refine CC.out.mono ?_
      rintro e v1 ⟨rfl,hb⟩
      have QN:=Hd (QN.out.next hb)
      have YN:=Hd (low_block hb YN.out)
      clear hb y0 y1 y2 y3 y4 y5 CC
      obtain ⟨⟨y0,y1,y2,y3,y4,y5⟩,_⟩:=six_cells YN.out
      have HR:Hid (rule3B S=false):=Hd (by unfold rule3B;rw [HNO.out (HU.out.trans (by simp)),Bool.false_and,Bool.false_and])
      obtain ⟨q0,q1⟩:=one_box QN.out.res
      go_wp2_with fail
      have hle:=QN.out.le
      refine postM_ret (res_bool rfl rfl (World.cell?_setCell_same' _ _ _ (by rw [q0];rfl))) rfl ⟨by rw [HR.out],QN.out.low.setCell (p:=⟨g2,0,none⟩) (by show _≤g2;omega) _⟩
    | true =>
      go_wp2_with fail
      refine CC.out.mono ?_
      rintro e v1 ⟨rfl,hb⟩
      have QN:=Hd (QN.out.next hb)
      have YN:=Hd (low_block hb YN.out)
      clear hb y0 y1 y2 y3 y4 y5 CC
      obtain ⟨⟨y0,y1,y2,y3,y4,y5⟩,_⟩:=six_cells YN.out
      have CC:=Hd (differPar_any d.params Am km v1 B (Nat.le_trans HB.out QN.out.low.size) HDZ.out.2.1 (RowT.below (QN.out.low.mono HB.out) HPM.out) (par_names HPM.out))
      obtain ⟨dp,hdp⟩:∃ b,diffB (d.params.map fun x=>x.name)=b:=⟨_,rfl⟩
      rw [hdp] at CC HU
      clear hdp
      cases dp with
      | false =>
        go_wp2_with fail
        refine CC.out.mono ?_
        rintro e v2 ⟨rfl,hb⟩
        have QN:=Hd (QN.out.next hb)
        have YN:=Hd (low_block hb YN.out)
        clear hb y0 y1 y2 y3 y4 y5 CC
        obtain ⟨⟨y0,y1,y2,y3,y4,y5⟩,_⟩:=six_cells YN.out
        have HR:Hid (rule3B S=false):=Hd (by unfold rule3B;rw [HNO.out (HU.out.trans (by simp)),Bool.false_and,Bool.false_and])
        obtain ⟨q0,q1⟩:=one_box QN.out.res
        go_wp2_with fail
        have hle:=QN.out.le
        refine postM_ret (res_bool rfl rfl (World.cell?_setCell_same' _ _ _ (by rw [q0];rfl))) rfl ⟨by rw [HR.out],QN.out.low.setCell (p:=⟨g2,0,none⟩) (by show _≤g2;omega) _⟩
      | true =>
        go_wp2_with fail
        refine CC.out.mono ?_
        rintro e v2 ⟨rfl,hb⟩
        have QN:=Hd (QN.out.next hb)
        have YN:=Hd (low_block hb YN.out)
        clear hb y0 y1 y2 y3 y4 y5 CC
        obtain ⟨⟨y0,y1,y2,y3,y4,y5⟩,_⟩:=six_cells YN.out
        have CC:=Hd (differStr_any d.parts Ap kp v2 B (Nat.le_trans HB.out QN.out.low.size) HDZ.out.2.2.1 (RowT.below (QN.out.low.mono HB.out) HPP.out) (row_names HPP.out))
        obtain ⟨dq,hdq⟩:∃ b,diffB (d.parts.map fun x=>x)=b:=⟨_,rfl⟩
        rw [hdq] at CC HU
        clear hdq
        cases dq with
        | false =>
          go_wp2_with fail
          refine CC.out.mono ?_
          rintro e v3 ⟨rfl,hb⟩
          have QN:=Hd (QN.out.next hb)
          have YN:=Hd (low_block hb YN.out)
          clear hb y0 y1 y2 y3 y4 y5 CC
          obtain ⟨⟨y0,y1,y2,y3,y4,y5⟩,_⟩:=six_cells YN.out
          have HR:Hid (rule3B S=false):=Hd (by unfold rule3B;rw [HNO.out (HU.out.trans (by simp)),Bool.false_and,Bool.false_and])
          obtain ⟨q0,q1⟩:=one_box QN.out.res
          go_wp2_with fail
          have hle:=QN.out.le
          refine postM_ret (res_bool rfl rfl (World.cell?_setCell_same' _ _ _ (by rw [q0];rfl))) rfl ⟨by rw [HR.out],QN.out.low.setCell (p:=⟨g2,0,none⟩) (by show _≤g2;omega) _⟩
        | true =>
          go_wp2_with fail
          refine CC.out.mono ?_
          rintro e v3 ⟨rfl,hb⟩
          have QN:=Hd (QN.out.next hb)
          have YN:=Hd (low_block hb YN.out)
          clear hb y0 y1 y2 y3 y4 y5 CC
          obtain ⟨⟨y0,y1,y2,y3,y4,y5⟩,_⟩:=six_cells YN.out
          have CC:=Hd (differStr_any d.faces Af kf v3 B (Nat.le_trans HB.out QN.out.low.size) HDZ.out.2.2.2 (RowT.below (QN.out.low.mono HB.out) HPA.out) (row_names HPA.out))
          obtain ⟨da,hda⟩:∃ b,diffB (d.faces.map fun x=>x)=b:=⟨_,rfl⟩
          rw [hda] at CC HU
          clear hda
          cases da with
          | false =>
            go_wp2_with fail
            refine CC.out.mono ?_
            rintro e v4 ⟨rfl,hb⟩
            have QN:=Hd (QN.out.next hb)
            have YN:=Hd (low_block hb YN.out)
            clear hb y0 y1 y2 y3 y4 y5 CC
            obtain ⟨⟨y0,y1,y2,y3,y4,y5⟩,_⟩:=six_cells YN.out
            have HR:Hid (rule3B S=false):=Hd (by unfold rule3B;rw [HNO.out (HU.out.trans (by simp)),Bool.false_and,Bool.false_and])
            obtain ⟨q0,q1⟩:=one_box QN.out.res
            go_wp2_with fail
            have hle:=QN.out.le
            refine postM_ret (res_bool rfl rfl (World.cell?_setCell_same' _ _ _ (by rw [q0];rfl))) rfl ⟨by rw [HR.out],QN.out.low.setCell (p:=⟨g2,0,none⟩) (by show _≤g2;omega) _⟩
          | true =>
            go_wp2_with fail
            refine CC.out.mono ?_
            rintro e v4 ⟨rfl,hb⟩
            have QN:=Hd (QN.out.next hb)
            have YN:=Hd (low_block hb YN.out)
            clear hb y0 y1 y2 y3 y4 y5 CC
            obtain ⟨⟨y0,y1,y2,y3,y4,y5⟩,_⟩:=six_cells YN.out
            have HA:=Hd (HYE.out (HU.out.trans rfl))
            clear y0 y1 y2 y3 y4 y5
            go_wp2_with fail
            go_roundg g
            case measure=>omega
            case rel=>exact ⟨q+1,by omega,by go_num,Blk.Aside.intro ⟨HA.out,QN.out⟩⟩
end Go.Proofs.YtaekdfcpbepepaaGreatDoor
