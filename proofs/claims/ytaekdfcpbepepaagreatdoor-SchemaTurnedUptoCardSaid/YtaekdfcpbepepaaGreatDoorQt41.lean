/- schema's rule 9. (gen_rule9.py wrote it.) -/
import Derived.Test.YtaekdfcpbepepaaGreatDoorQt33
set_option maxRecDepth 100000
set_option maxHeartbeats 8000000
namespace Go.Proofs.YtaekdfcpbepepaaGreatDoor
open Go.RowKit
attribute [local go_sem] Oper.semAt_some
def rt9P (D:List DefnT) (p:VarT):Bool:=!p.has || rightL D ⟨p.tn,p.tl,p.tm,false,p.v⟩
def lf9P (D:List DefnT) (p:VarT):Bool:=!p.has || leafD D p.tn
def lf9D (D:List DefnT) (d:DefnT):Bool:=d.params.all (lf9P D)
def rule9B (S:SchT):Bool:=(allPm S.defs).all (rt9P S.defs) && S.defs.all (lf9D S.defs)
theorem var_val {w:World} {P:Nat→Prop} {p:VarT} {E3 E4:Option Addr} {j3 j4:Nat} (h:TS w P (encVar p) [.string p.name,.string p.tn,.int .i64 p.tl,.int .i64 p.tm,.bool p.has,.int .i64 p.v.kd,.int .i64 p.v.nn,.string p.v.ss,.slice E3 p.v.ls.len j3,.slice E4 p.v.ms.len j4]):TS w P (encV p.v) [.int .i64 p.v.kd,.int .i64 p.v.nn,.string p.v.ss,.slice E3 p.v.ls.len j3,.slice E4 p.v.ms.len j4]:=by
 unfold encVar at h
 simp only [TS,TP] at h
 obtain ⟨_,_,e1,_,_,_,e2,_,_,_,e3,_,_,_,e4,_,_,_,e5,_,h5⟩:=h
 cases e1
 cases e2
 cases e3
 cases e4
 cases e5
 exact h5
theorem mod_all {S:SchT} (h:ModS S):∀ p,p ∈ allPm S.defs→sizeV p.v≤9000:=fun p hp=>by
 rcases List.mem_append.1 hp with hp|hp
 · obtain ⟨f,hf,hpf⟩:=List.mem_flatMap.1 hp
   obtain ⟨d,hd,hfd⟩:=List.mem_flatMap.1 hf
   exact ((h d hd).2 f hfd).1 p hpf
 · obtain ⟨d,hd,hpd⟩:=List.mem_flatMap.1 hp
   exact (h d hd).1 p hpd
theorem rule9_any (S:SchT) (hm:ModS S) (hz:SlimS S) (c0 c1 c2:Value) (w:World) (B:Nat) (hB:B≤w.heap.size) (hS:TS w (fun b=>b < B) (encSch S) [c0,c1,c2]) (hw:Laid5 w) :
  Calls Tryz.prog 62 #[.agg #[c0,c1,c2]] w fun e w'=>e=.returned (.bool (rule9B S))∧Below w.heap.size w w':=by
 have HPZ:=Hd (mod_all hm)
 have HZ:=Hd hz
 have HW:=Hd hw
 obtain ⟨A,k,e,hl,hR⟩:=sch_cells hS
 injection e with e0 e
 injection e with e1 e
 injection e with e2 e
 subst e0 e1 e2
 have HS:=Hd hS
 have HB:=Hd hB
 have HR:=Hd hR
 clear hS hB hR e hz hm hw
 refine callsIn_wide.1 (callsIn_of_wp_marks (F:=Fence.wide) (n:=3) Tryz.func62 rfl trivial ?_)
 simp only [Tryz.ntmps62,List.size_toArray,List.length_cons,List.length_nil,Nat.reduceAdd,Nat.reduceSub,Array.replicate_succ,Array.replicate_zero,List.push_toArray,List.append_toArray,List.nil_append,List.cons_append]
 refine wpIn_wide.2 ?_
 go_upto_region 1 with fail
 have Q1:=Hd (RgB.start (S:=S) (A:=A) (k:=k) HB.out)
 generalize (w.alloc (.cells #[.slice A S.defs.length k,.string S.query,.string S.mutation] 24)).alloc (.cells #[.bool false] 4)=w1 at Q1 ⊢
 obtain ⟨g1,hg1⟩:∃ g,w.heap.size=g:=⟨_,rfl⟩
 obtain ⟨g2,hg2⟩:∃ g,w.heap.size+1=g:=⟨_,rfl⟩
 have Q1:Hid (RgB w w1 B g1 g2 S A k):=Hd (by have h:=Q1.out;rw [hg2,hg1] at h;exact h)
 rw [hg2,hg1]
 clear hg1 hg2
 have FA1:=Hd (fun (wx:World)=>params_any A S.defs.length k S.query S.mutation wx)
 obtain ⟨y0,y1,y2⟩:=three_cells Q1.out.box
 go_wp2_with fail
 refine (FA1.out _).mono ?_
 rintro e w2 ⟨rfl,hw⟩
 have hbw:Below w1.heap.size w1 w2:=by rw [hw];exact dbelow_new _ _
 have F1:Hid (w2.heap[w1.heap.size]? = some (.cells #[.slice A S.defs.length k,.string S.query,.string S.mutation] 24 (0,0))):=Hd (by rw [hw];exact heap_alloc_new _ _)
 have Q2:=Hd (Q1.out.next hbw)
 have hq1:w1.heap.size < w2.heap.size:=by rw [hw];simp
 have K1:=Hd hbw
 obtain ⟨ga,hga⟩:∃ g,w1.heap.size=g:=⟨_,rfl⟩
 rw [hga] at F1 hq1 ⊢
 clear hw hbw hga FA1 y0 y1 y2
 go_wp2_with fail
 refine (wpIn_wide (n:=3)).1 (wpIn_rangeFunc_y (F:=Fence.wide) rfl (by decide) (gf:=153) (lb:=#[.pointer (some ⟨ga,0,none⟩)]) rfl trivial (enters_of Tryz.func153 (by kernel_rfl) rfl)
  (allPm S.defs).length (fun cs=>#[.agg cs.toArray]) (LiesV S.defs B) (Below (w2.heap.size+2)) (fun A B=>Below A.heap.size A B) (MoZ (fun b=>b=w2.heap.size+1)) (MoZ (fun b=>b < w2.heap.size+2)) (fun _=>rfl)
  (fun i V=>OkTo (allPm S.defs) (rt9P S.defs) i∧Below w2.heap.size w2 V)
  (fun c i V=>c=.ret∧BadAt (allPm S.defs) (rt9P S.defs) i∧V.cell? ⟨g2,0,none⟩=some (.bool false)∧MoZ (fun b=>b=g2) w2 V)
  ?hTl2 ?hIT2 ?hIxT2 ?hIr2 ?hIxr2 ?hRc2 ?hRXc2 ?h02 ?hseq2 ?hround2 ?hdone2 ?hstop2)
 case hTl2 =>
  intro a b ht c o hc ho
  exact (ht.block c (by omega)).trans ho
 case hIT2 =>
  rintro i a b ⟨h1,h2⟩ ht
  exact ⟨h1,h2.trans (ht.mono (by omega))⟩
 case hIxT2 =>
  rintro c i a b ⟨h1,h2,h3,h4⟩ ht
  have hgl:=(Array.getElem?_eq_some_iff.1 Q2.out.res).1
  exact ⟨h1,h2,(World.cell?_of_block (a:=⟨g2,0,none⟩) (ht.block g2 (by omega))).trans h3,moz_low h4 ht (by omega)⟩
 case hIr2 =>
  rintro i V o ⟨h1,h2⟩ hlt
  exact ⟨h1,low_put h2 (by omega) o⟩
 case hIxr2 =>
  rintro c i V o ⟨h1,h2,h3,h4⟩ hlt
  have hgl:=(Array.getElem?_eq_some_iff.1 Q2.out.res).1
  exact ⟨h1,h2,(World.cell?_of_block (a:=⟨g2,0,none⟩) (World.putObj_heap_other (by show g2 ≠ _;omega))).trans h3,moz_low h4 (low_put (Below.refl _ _) (Nat.le_succ _) o) (Nat.le_refl _)⟩
 case hRc2 =>
  rintro i V V1 V3 o o' _ hb hd hr
  exact ((MoZ.of_below hb).trans (MoZ.put (X:=fun b=>b=w2.heap.size+1) rfl o)).trans (hr.trans (MoZ.put (X:=fun b=>b=w2.heap.size+1) rfl o'))
 case hRXc2 =>
  rintro V V1 V3 o o' hb hd hr
  exact ((MoZ.of_below hb).trans (MoZ.put (by omega) o)).trans (hr.trans (MoZ.put (by omega) o'))
 case h02 =>
  intro W1 hb hs1
  exact ⟨OkTo.zero _ _,hb⟩
 case hseq2 =>
  intro W1 J' Jx' hb hs1 hJ' hJx' hY' hJ0'
  have hle:=Q2.out.le
  have hls:=Q2.out.low.size
  exact params_in S ga B _ _ _ (fun b=>b=w2.heap.size+1) W1 (fun b hb'=>by subst hb';omega) (by omega) (low_block hb F1.out) (TS.low ((Q2.out.low.trans (hb.mono Q2.out.low.size)).mono HB.out) HS.out) (w2.heap.size+1) J' Jx' (fun i a b h ht=>hJ' i a b h (by rw [← hs1];exact ht)) (fun i a b h ht=>hJx' i a b h (by rw [← hs1];exact ht)) (fun i x V hi hj hL=>(hY' i x V hi hj hL).mono (fun e V' h=>by rw [← hs1] at h;exact h)) hJ0'
 case hround2 =>
  rintro i cs V hi ⟨h1,h2⟩ ⟨p,hx,hT⟩ hlt
  obtain ⟨E3,j3,E4,j4,rfl,HFC⟩:=var_cells hT
  have e0:∀ z:List Value,(#[10].zip ((fun cs=>#[.agg cs.toArray]) z:Array Value))=#[(10,.agg z.toArray)]:=fun z=>by simp
  simp only [e0]
  have H1:=Hd h1
  clear h1
  gi_wp2
  have hb9:=dbelow_new V (.cells #[.string p.name,.string p.tn,.int .i64 p.tl,.int .i64 p.tm,.bool p.has,.int .i64 p.v.kd,.int .i64 p.v.nn,.string p.v.ss,.slice E3 p.v.ls.len j3,.slice E4 p.v.ms.len j4] 60)
  have i9:=heap_alloc_new V (.cells #[.string p.name,.string p.tn,.int .i64 p.tl,.int .i64 p.tm,.bool p.has,.int .i64 p.v.kd,.int .i64 p.v.nn,.string p.v.ss,.slice E3 p.v.ls.len j3,.slice E4 p.v.ms.len j4] 60)
  generalize V.alloc (.cells #[.string p.name,.string p.tn,.int .i64 p.tl,.int .i64 p.tm,.bool p.has,.int .i64 p.v.kd,.int .i64 p.v.nn,.string p.v.ss,.slice E3 p.v.ls.len j3,.slice E4 p.v.ms.len j4] 60)=V0 at hb9 i9 ⊢
  have hsv:=h2.size
  have hle:=Q2.out.le
  have hls:=Q2.out.low.size
  have hgl:=(Array.getElem?_eq_some_iff.1 Q2.out.res).1
  have hgl1:=(Array.getElem?_eq_some_iff.1 Q2.out.box).1
  refine ⟨hb9.mono (by omega),hb9,⟨H1.out,h2.trans (hb9.mono h2.size)⟩,fun o=>?_⟩
  have hs9:=hb9.size
  have i9p:=(World.putObj_heap_other (w:=V0) (r:=w2.heap.size+1) (o:=o) (show V.heap.size ≠ w2.heap.size+1 by omega)).trans i9
  have L1:Below w2.heap.size w2 (V0.putObj (w2.heap.size+1) o):=low_put (h2.trans (hb9.mono h2.size)) (by omega) o
  have T1:TS (V0.putObj (w2.heap.size+1) o) (fun b=>b < B) (encVar p) [.string p.name,.string p.tn,.int .i64 p.tl,.int .i64 p.tm,.bool p.has,.int .i64 p.v.kd,.int .i64 p.v.nn,.string p.v.ss,.slice E3 p.v.ls.len j3,.slice E4 p.v.ms.len j4]:=TS.keep (fun b hb=>⟨hb,(World.putObj_heap_other (by omega)).trans (hb9.block b (by omega))⟩) _ _ hT
  have hs1:w2.heap.size+1 < (V0.putObj (w2.heap.size+1) o).heap.size:=by simp;omega
  generalize V0.putObj (w2.heap.size+1) o=V1 at i9p L1 T1 hs1 ⊢
  generalize V.heap.size=gb at i9p ⊢
  have QV:=Hd (Q2.out.next L1)
  have HT:=Hd T1
  have HX:=Hd hx
  have HL:=Hd L1
  have IB:=Hd i9p
  have hbV1:B≤V1.heap.size:=by omega
  have TSC:=Hd (TS.low (QV.out.low.mono HB.out) HS.out)
  clear h2 hx hT T1 L1 hb9 i9 i9p hs9 hlt hsv
  obtain ⟨u0,u1,u2⟩:=three_cells QV.out.box
  obtain ⟨⟨y0,y1,y2,y3,y4,y5,y6,y7,y8,y9⟩,_⟩:=ten_cells IB.out
  have HOKE:Hid (rt9P S.defs p=(!p.has || rightL S.defs ⟨p.tn,p.tl,p.tm,false,p.v⟩)):=Hd rfl
  cases hh:p.has
  · rw [hh] at y4 HOKE
    gi_wp2
    refine ⟨trivial,?_⟩
    gi_wp2
    have hb:=Below.refl V1.heap.size V1
    exact ⟨⟨hb.block _ hs1,hb.block _ (by omega)⟩,⟨H1.out.next HX.out (HOKE.out),HL.out.trans (hb.mono HL.out.size)⟩,MoZ.of_below hb⟩
  · rw [hh] at y4 HOKE
    have RR:=Hd (right_gen S p.tn p.tl p.tm p.v _ _ _ E3 E4 j3 j4 V1 B hbV1 (HW.out.below QV.out.low) HZ.out (Nat.le_trans (HPZ.out p (List.mem_of_getElem? HX.out)) (by decide)) HFC.2 TSC.out (var_val HT.out))
    obtain ⟨rr,hrr⟩:∃ b,rightL S.defs ⟨p.tn,p.tl,p.tm,false,p.v⟩=b:=⟨_,rfl⟩
    rw [hrr] at RR HOKE
    clear hrr
    cases rr
    · gi_wp2
      refine ⟨trivial,(CallsIn.inRound _ (callsIn_wide.2 RR.out)).mono ?_⟩
      rintro e V2 ⟨rfl,hb⟩
      have B2:=Hd hb
      clear hb u0 u1 u2 y0 y1 y2 y3 y4 y5 y6 y7 y8 y9
      obtain ⟨q0,q1⟩:=one_box (low_block B2.out QV.out.res)
      gi_wp2
      have hb:=B2.out
      first
       | exact ⟨⟨(Below.heap_setCell _ _ _ _ (by show _ ≠ g2;omega)).trans (hb.block _ hs1),(Below.heap_setCell _ _ _ _ (by show _ ≠ g2;omega)).trans (hb.block _ (by omega))⟩,⟨rfl,⟨_,HX.out,HOKE.out⟩,World.cell?_setCell_same' _ _ _ (by rw [q0];rfl),(MoZ.of_below (HL.out.trans (hb.mono HL.out.size))).trans moz_set⟩,(MoZ.of_below hb).trans (moz_set.mono (fun b hb'=>by show b < _;omega))⟩
       | exact ⟨⟨(Below.heap_setCell _ _ _ _ (by show _ ≠ g2;omega)).trans (hb.block _ hs1),(Below.heap_setCell _ _ _ _ (by show _ ≠ g2;omega)).trans (hb.block _ (by omega))⟩,rfl,⟨_,HX.out,HOKE.out⟩,World.cell?_setCell_same' _ _ _ (by rw [q0];rfl),(MoZ.of_below (HL.out.trans (hb.mono HL.out.size))).trans moz_set,(MoZ.of_below hb).trans (moz_set.mono (fun b hb'=>by show b < _;omega))⟩
    · gi_wp2
      refine ⟨trivial,(CallsIn.inRound _ (callsIn_wide.2 RR.out)).mono ?_⟩
      rintro e V2 ⟨rfl,hb⟩
      have B2:=Hd hb
      clear hb u0 u1 u2 y0 y1 y2 y3 y4 y5 y6 y7 y8 y9
      gi_wp2
      have hb:=B2.out
      exact ⟨⟨hb.block _ hs1,hb.block _ (by omega)⟩,⟨H1.out.next HX.out (HOKE.out),HL.out.trans (hb.mono HL.out.size)⟩,MoZ.of_below hb⟩
 case hdone2 =>
  rintro V ⟨h1,h2⟩ hK
  have QD:=Hd (Q2.out.next h2)
  have HA1:=Hd h1
  have MK:=Hd hK
  clear h1 h2 hK
  obtain ⟨y0,y1,y2⟩:=three_cells QD.out.box
  go_wp2_with fail
  clear y0 y1 y2
  go_loopg [25] S.defs.length (fun g i wx=>∃ q:Nat,q+g=S.defs.length∧i=.int .i64 q∧Aside ((S.defs.take q).all (lf9D S.defs)=true∧Below V.heap.size V wx))
  case atStart=>exact ⟨0,by omega,rfl,Blk.Aside.intro ⟨rfl,Below.refl _ _⟩⟩
  case round =>
    obtain ⟨q,hq,rfl,HX⟩:=hrel
    have HI:=Hd HX.out.1
    have BN:=Hd HX.out.2
    clear HX
    cases gk with
    | zero =>
      obtain rfl:q=S.defs.length:=by omega
      have HA2:=Hd (all_take_end HI.out)
      have HR9:Hid (rule9B S=true):=Hd (by unfold rule9B;rw [HA1.out.all,HA2.out];rfl)
      obtain ⟨q0,q1⟩:=one_box (low_block BN.out QD.out.res)
      go_wp2_with fail
      have hgl:=(Array.getElem?_eq_some_iff.1 Q2.out.res).1
      have hls:=Q2.out.low.size
      have hc:=World.cell?_setCell_same' wr ⟨g2,0,none⟩ (.bool true) (by rw [q0];rfl)
      refine postM_mark (D:=w2.heap.size) rfl ((Below.heap_setCell _ _ _ _ (by show w2.heap.size ≠ g2;omega)).trans (low_block BN.out MK.out)) (fun w' hb=>res_bool rfl rfl ((World.cell?_of_block (a:=⟨g2,0,none⟩) (hb g2 (by omega))).trans hc)) (fun w' e1 e2 e3 e4 hb=>⟨by rw [HR9.out],QD.out.done ((MoZ.of_below BN.out).trans moz_set) e1 e2 e3 e4 (fun b hlt=>hb b (by omega))⟩)
    | succ g =>
      have hqn:q < S.defs.length:=by omega
      have hqn':(q:Int) < (S.defs.length:Int):=by omega
      obtain ⟨d,hx⟩:∃ x,S.defs[q]? = some x:=⟨_,List.getElem?_eq_getElem hqn⟩
      obtain ⟨b,o,cs,rfl,hb,hc,hT⟩:=rowOf_at 6 defn_len HR.out hx
      have HBL:=Hd (Nat.lt_of_lt_of_le hb HB.out)
      obtain ⟨Af,kf,Ax,kx,Ap,kp,Am,km,rfl,_,_,_,_,hpl,hfm⟩:=defn_cells hT
      have LW:=QD.out.low.trans (BN.out.mono QD.out.low.size)
      have x0:=(LW.cell (p:=⟨b,o+q*6,none⟩) HBL.out).trans (hc 0 _ rfl)
      have x1:=(LW.cell (p:=⟨b,o+q*6+1,none⟩) HBL.out).trans (hc 1 _ rfl)
      have x2:=(LW.cell (p:=⟨b,o+q*6+2,none⟩) HBL.out).trans (hc 2 _ rfl)
      have x3:=(LW.cell (p:=⟨b,o+q*6+3,none⟩) HBL.out).trans (hc 3 _ rfl)
      have x4:=(LW.cell (p:=⟨b,o+q*6+4,none⟩) HBL.out).trans (hc 4 _ rfl)
      have x5:=(LW.cell (p:=⟨b,o+q*6+5,none⟩) HBL.out).trans (hc 5 _ rfl)
      have HYE:=Hd (fun h=>all_take_next (p:=lf9D S.defs) HI.out hx h)
      have HNO:=Hd (fun h=>all_take_no (p:=lf9D S.defs) hx h)
      have HUD:Hid (lf9D S.defs d=d.params.all (lf9P S.defs)):=Hd rfl
      generalize lf9D S.defs d=ud at HYE HNO HUD
      have HPM:=Hd hfm
      clear hx hb hc hT hfm LW
      go_upto_region 8 with fail
      clear x0 x1 x2 x3 x4 x5
      have bn:=dbelow_new wr (.cells #[.int .i64 d.kind,.string d.name,.slice Af d.faces.length kf,.slice Ax d.fields.length kx,.slice Ap d.parts.length kp,.slice Am d.params.length km] 37)
      have B2:=Hd (BN.out.trans (bn.mono BN.out.size))
      have YN:=Hd (heap_alloc_new wr (.cells #[.int .i64 d.kind,.string d.name,.slice Af d.faces.length kf,.slice Ax d.fields.length kx,.slice Ap d.parts.length kp,.slice Am d.params.length km] 37))
      generalize wr.alloc (.cells #[.int .i64 d.kind,.string d.name,.slice Af d.faces.length kf,.slice Ax d.fields.length kx,.slice Ap d.parts.length kp,.slice Am d.params.length km] 37)=v0 at B2 YN ⊢
      generalize wr.heap.size=gd at YN ⊢
      clear bn BN
      obtain ⟨⟨y0,y1,y2,y3,y4,y5⟩,_⟩:=six_cells YN.out
      go_wp2_with fail
      clear y0 y1 y2 y3 y4 y5
      go_loopg [32] d.params.length (fun g2 i wx=>∃ z:Nat,z+g2=d.params.length∧i=.int .i64 z∧Aside ((d.params.take z).all (lf9P S.defs)=true∧Below V.heap.size V wx))
      case atStart=>exact ⟨0,by omega,rfl,Blk.Aside.intro ⟨rfl,B2.out⟩⟩
      case round =>
       obtain ⟨z,hz,rfl,HX⟩:=hrel
       have HJ:=Hd HX.out.1
       have BN:=Hd HX.out.2
       clear HX B2 YN
       cases gk with
       | zero =>
         obtain rfl:z=d.params.length:=by omega
         have HA:=Hd (HYE.out (HUD.out.trans (all_take_end HJ.out)))
         go_wp2_with fail
         go_roundg g
         case measure=>omega
         case rel=>exact ⟨q+1,by omega,by go_num,Blk.Aside.intro ⟨HA.out,BN.out⟩⟩
       | succ gz =>
         have hzn:z < d.params.length:=by omega
         have hzn':(z:Int) < (d.params.length:Int):=by omega
         obtain ⟨p,hx⟩:∃ x,d.params[z]? = some x:=⟨_,List.getElem?_eq_getElem hzn⟩
         obtain ⟨b,o,cs,rfl,hb,hc,hT⟩:=rowOf_at 10 len_par HPM.out hx
         have HBL:=Hd (Nat.lt_of_lt_of_le hb HB.out)
         obtain ⟨E3,j3,E4,j4,rfl,_,htn⟩:=var_cells hT
         have LW:=QD.out.low.trans (BN.out.mono QD.out.low.size)
         have x0:=(LW.cell (p:=⟨b,o+z*10,none⟩) HBL.out).trans (hc 0 _ rfl)
         have x1:=(LW.cell (p:=⟨b,o+z*10+1,none⟩) HBL.out).trans (hc 1 _ rfl)
         have x2:=(LW.cell (p:=⟨b,o+z*10+2,none⟩) HBL.out).trans (hc 2 _ rfl)
         have x3:=(LW.cell (p:=⟨b,o+z*10+3,none⟩) HBL.out).trans (hc 3 _ rfl)
         have x4:=(LW.cell (p:=⟨b,o+z*10+4,none⟩) HBL.out).trans (hc 4 _ rfl)
         have x5:=(LW.cell (p:=⟨b,o+z*10+5,none⟩) HBL.out).trans (hc 5 _ rfl)
         have x6:=(LW.cell (p:=⟨b,o+z*10+6,none⟩) HBL.out).trans (hc 6 _ rfl)
         have x7:=(LW.cell (p:=⟨b,o+z*10+7,none⟩) HBL.out).trans (hc 7 _ rfl)
         have x8:=(LW.cell (p:=⟨b,o+z*10+8,none⟩) HBL.out).trans (hc 8 _ rfl)
         have x9:=(LW.cell (p:=⟨b,o+z*10+9,none⟩) HBL.out).trans (hc 9 _ rfl)
         have HY2:=Hd (fun h=>all_take_next (p:=lf9P S.defs) HJ.out hx h)
         have HN2:=Hd (fun h=>all_take_no (p:=lf9P S.defs) hx h)
         have HU:Hid (lf9P S.defs p=(!p.has || leafD S.defs p.tn)):=Hd rfl
         generalize lf9P S.defs p=ub at HY2 HN2 HU
         clear hx hb hc hT LW
         go_upto_region 11 with fail
         clear x0 x1 x2 x3 x4 x5 x6 x7 x8 x9
         have bn:=dbelow_new wr (.cells #[.string p.name,.string p.tn,.int .i64 p.tl,.int .i64 p.tm,.bool p.has,.int .i64 p.v.kd,.int .i64 p.v.nn,.string p.v.ss,.slice E3 p.v.ls.len j3,.slice E4 p.v.ms.len j4] 60)
         have B3:=Hd (BN.out.trans (bn.mono BN.out.size))
         have YN:=Hd (heap_alloc_new wr (.cells #[.string p.name,.string p.tn,.int .i64 p.tl,.int .i64 p.tm,.bool p.has,.int .i64 p.v.kd,.int .i64 p.v.nn,.string p.v.ss,.slice E3 p.v.ls.len j3,.slice E4 p.v.ms.len j4] 60))
         generalize wr.alloc (.cells #[.string p.name,.string p.tn,.int .i64 p.tl,.int .i64 p.tm,.bool p.has,.int .i64 p.v.kd,.int .i64 p.v.nn,.string p.v.ss,.slice E3 p.v.ls.len j3,.slice E4 p.v.ms.len j4] 60)=v1 at B3 YN ⊢
         generalize wr.heap.size=gp at YN ⊢
         clear bn BN
         obtain ⟨⟨y0,y1,y2,y3,y4,y5,y6,y7,y8,y9⟩,_⟩:=ten_cells YN.out
         obtain ⟨u0,u1,u2⟩:=three_cells (low_block B3.out QD.out.box)
         cases hh:p.has with
         | false =>
           rw [hh] at y4 HU
           have HA:=Hd (HY2.out (HU.out.trans rfl))
           go_wp2_with fail
           go_roundg gz
           case measure=>omega
           case rel=>exact ⟨z+1,by omega,by go_num,Blk.Aside.intro ⟨HA.out,B3.out⟩⟩
         | true =>
           rw [hh] at y4 HU
           have LC:=Hd (leaf_any S p.tn _ _ _ v1 B (Nat.le_trans HB.out (Nat.le_trans QD.out.low.size B3.out.size)) htn (TS.low ((QD.out.low.trans (B3.out.mono QD.out.low.size)).mono HB.out) HS.out))
           obtain ⟨lc,hlc⟩:∃ b,leafD S.defs p.tn=b:=⟨_,rfl⟩
           rw [hlc] at LC HU
           clear hlc
           go_wp2_with fail
           refine LC.out.mono ?_
           rintro e VN ⟨rfl,hb⟩
           have BN:=Hd (B3.out.trans (hb.mono B3.out.size))
           clear hb y0 y1 y2 y3 y4 y5 y6 y7 y8 y9 u0 u1 u2 B3 YN LC
           cases lc with
           | false =>
             have HR9:Hid (rule9B S=false):=Hd (by unfold rule9B;rw [HNO.out (HUD.out.trans (HN2.out (HU.out.trans rfl))),Bool.and_false])
             obtain ⟨q0,q1⟩:=one_box (low_block BN.out QD.out.res)
             go_wp2_with fail
             have hgl:=(Array.getElem?_eq_some_iff.1 Q2.out.res).1
             have hls:=Q2.out.low.size
             have hc:=World.cell?_setCell_same' VN ⟨g2,0,none⟩ (.bool false) (by rw [q0];rfl)
             refine postM_mark (D:=w2.heap.size) rfl ((Below.heap_setCell _ _ _ _ (by show w2.heap.size ≠ g2;omega)).trans (low_block BN.out MK.out)) (fun w' hb=>res_bool rfl rfl ((World.cell?_of_block (a:=⟨g2,0,none⟩) (hb g2 (by omega))).trans hc)) (fun w' e1 e2 e3 e4 hb=>⟨by rw [HR9.out],QD.out.done ((MoZ.of_below BN.out).trans moz_set) e1 e2 e3 e4 (fun b hlt=>hb b (by omega))⟩)
           | true =>
             have HA:=Hd (HY2.out (HU.out.trans rfl))
             go_wp2_with fail
             go_roundg gz
             case measure=>omega
             case rel=>exact ⟨z+1,by omega,by go_num,Blk.Aside.intro ⟨HA.out,BN.out⟩⟩
 case hstop2 =>
  rintro c i V hi ⟨rfl,hno,h3,h4⟩ hK
  refine wpIn_wide.2 ?_
  have HR:Hid (rule9B S=false):=Hd (by unfold rule9B;rw [hno.all,Bool.false_and])
  have HC:=Hd h3
  have HM:=Hd h4
  have HK:=Hd hK
  clear h3 h4 hno hK
  go_wp2_with fail
  have hgl:=(Array.getElem?_eq_some_iff.1 Q2.out.res).1
  have hls:=Q2.out.low.size
  refine postM_mark (D:=w2.heap.size) rfl HK.out (fun w' hb=>res_bool rfl rfl ((World.cell?_of_block (a:=⟨g2,0,none⟩) (hb g2 (by omega))).trans HC.out)) (fun w' e1 e2 e3 e4 hb=>⟨by rw [HR.out],Q2.out.done HM.out e1 e2 e3 e4 (fun b hlt=>hb b (by omega))⟩)
end Go.Proofs.YtaekdfcpbepepaaGreatDoor
