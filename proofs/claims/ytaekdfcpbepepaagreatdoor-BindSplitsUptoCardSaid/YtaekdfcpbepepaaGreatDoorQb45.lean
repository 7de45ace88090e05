/- schema's rule 9. (gen_rule9.py wrote it.) -/
import Derived.Test.YtaekdfcpbepepaaGreatDoorQb41
import Derived.Test.YtaekdfcpbepepaaGreatDoorQb44
import Derived.Test.YtaekdfcpbepepaaGreatDoorQb34
set_option maxRecDepth 100000
set_option maxHeartbeats 8000000
namespace Go.Proofs.YtaekdfcpbepepaaGreatDoor
open Go.RowKit
attribute [local go_sem] Oper.semAt_some
def rt9P (D:List DefnT) (p:VarT):Bool:=!p.has || rightL D ⟨p.tn,p.tl,p.tm,false,p.v⟩
def lf9P (D:List DefnT) (p:VarT):Bool:=!p.has || leafD D p.tn
def lf9D (D:List DefnT) (d:DefnT):Bool:=d.params.all (lf9P D)
def rule9B (S:SchT):Bool:=(allPm S.defs).all (rt9P S.defs) && S.defs.all (lf9D S.defs)
theorem var_val {w:World} {P:Nat→Prop} {p:VarT} {E3 E4:Option Addr} {j3 j4:Nat} (h:TS w P (encVar p) [.string p.name,.string p.tn,.int .i64 p.tl,.int .i64 p.tm,.bool p.has,.int .i64 p.v.kd,.int .i64 p.v.nn,.string p.v.ss,.slice E3 p.v.ls.len j3,.slice E4 p.v.ms.len j4]):TS w P (encV p.v) [.int .i64 p.v.kd,.int .i64 p.v.nn,.string p.v.ss,.slice E3 p.v.ls.len j3,.slice E4 p.v.ms.len j4]:=by
 unfold encVar at h
 simp only [TS,TP] at h
 obtain ⟨_,_,e1,_,_,_,e2,_,_,_,e3,_,_,_,e4,_,_,_,e5,_,h5⟩:=h
 cases e1
 cases e2
 cases e3
 cases e4
 cases e5
 exact h5
theorem mod_all {S:SchT} (h:ModS S):∀ p,p ∈ allPm S.defs→sizeV p.v≤9000:=fun p hp=>by
 rcases List.mem_append.1 hp with hp|hp
 · obtain ⟨f,hf,hpf⟩:=List.mem_flatMap.1 hp
   obtain ⟨d,hd,hfd⟩:=List.mem_flatMap.1 hf
   exact ((h d hd).2 f hfd).1 p hpf
 · obtain ⟨d,hd,hpd⟩:=List.mem_flatMap.1 hp
   exact (h d hd).1 p hpd
theorem rule9_any (S:SchT) (hm:ModS S) (hz:SlimS S) (c0 c1 c2:Value) (w:World) (B:Nat) (hB:B≤w.heap.size) (hS:TS w (fun b=>b < B) (encSch S) [c0,c1,c2]) (hw:Laid5 w) :
  Calls Tryz.prog 62 #[.agg #[c0,c1,c2]] w fun e w'=>e=.returned (.bool (rule9B S))∧Below w.heap.size w w':=by
 have HPZ:=Hd (mod_all hm)
 have HZ:=Hd hz
 have HW:=Hd hw
 obtain ⟨A,k,e,hl,hR⟩:=sch_cells hS
 injection e with e0 e
 injection e with e1 e
 injection e with e2 e
 subst e0 e1 e2
 have HS:=Hd hS
 have HB:=Hd hB
 have HR:=Hd hR
 clear hS hB hR e hz hm hw
 refine callsIn_wide.1 (callsIn_of_wp_marks (F:=Fence.wide) (n:=3) Tryz.func62 rfl trivial ?_)
 simp only [Tryz.ntmps62,List.size_toArray,List.length_cons,List.length_nil,Nat.reduceAdd,Nat.reduceSub,Array.replicate_succ,Array.replicate_zero,List.push_toArray,List.append_toArray,List.nil_append,List.cons_append]
 refine wpIn_wide.2 ?_
 go_upto_region 1 with fail
 have Q1:=Hd (RgB.start (S:=S) (A:=A) (k:=k) HB.out)
 generalize (w.alloc (.cells #[.slice A S.defs.length k,.string S.query,.string S.mutation] 24)).alloc (.cells #[.bool false] 4)=w1 at Q1 ⊢
 obtain ⟨g1,hg1⟩:∃ g,w.heap.size=g:=⟨_,rfl⟩
 obtain ⟨g2,hg2⟩:∃ g,w.heap.size+1=g:=⟨_,rfl⟩
 have Q1:Hid (RgB w w1 B g1 g2 S A k):=Hd (by have h:=Q1.out;rw [hg2,hg1] at h;exact h)
 rw [hg2,hg1]
 clear hg1 hg2
 have FA1:=Hd (fun (wx:World)=>params_any A S.defs.length k S.query S.mutation wx)
 obtain ⟨y0,y1,y2⟩:=three_cells Q1.out.box
 go_wp2_with fail
 refine (FA1.out _).mono ?_
 rintro e w2 ⟨rfl,hw⟩
 have hbw:Below w1.heap.size w1 w2:=by rw [hw];exact dbelow_new _ _
 have F1:Hid (w2.heap[w1.heap.size]? = some (.cells #[.slice A S.defs.length k,.string S.query,.string S.mutation] 24 (0,0))):=Hd (by rw [hw];exact heap_alloc_new _ _)
 have Q2:=Hd (Q1.out.next hbw)
 have hq1:w1.heap.size < w2.heap.size:=by rw [hw];simp
 have K1:=Hd hbw
 obtain ⟨ga,hga⟩:∃ g,w1.heap.size=g:=⟨_,rfl⟩
 rw [hga] at F1 hq1 ⊢
 clear hw hbw hga FA1 y0 y1 y2
 go_wp2_with fail
 refine (wpIn_wide (n:=3)).1 (wpIn_rangeFunc_y (F:=Fence.wide) rfl (by decide) (gf:=153) (lb:=#[.pointer (some ⟨ga,0,none⟩)]) rfl trivial (enters_of Tryz.func153 (by kernel_rfl) rfl)
  (allPm S.defs).length (fun cs=>#[.agg cs.toArray]) (LiesV S.defs B) (Below (w2.heap.size+2)) (fun A B=>Below A.heap.size A B) (MoZ (fun b=>b=w2.heap.size+1)) (MoZ (fun b=>b < w2.heap.size+2)) (fun _=>rfl)
  (fun i V=>OkTo (allPm S.defs) (rt9P S.defs) i∧Below w2.heap.size w2 V)
  (fun c i V=>c=.ret∧BadAt (allPm S.defs) (rt9P S.defs) i∧V.cell? ⟨g2,0,none⟩=some (.bool false)∧MoZ (fun b=>b=g2) w2 V)
  ?hTl2 ?hIT2 ?hIxT2 ?hIr2 ?hIxr2 ?hRc2 ?hRXc2 ?h02 ?hseq2 ?hround2 ?hdone2 ?hstop2)
 case hTl2 =>
  intro a b ht c o hc ho
  exact (ht.block c (by omega)).trans ho
 case hIT2 =>
  rintro i a b ⟨h1,h2⟩ ht
  exact ⟨h1,h2.trans (ht.mono (by omega))⟩
 case hIxT2 =>
  rintro c i a b ⟨h1,h2,h3,h4⟩ ht
  have hgl:=(Array.getElem?_eq_some_iff.1 Q2.out.res).1
  exact ⟨h1,h2,(World.cell?_of_block (a:=⟨g2,0,none⟩) (ht.block g2 (by omega))).trans h3,moz_low h4 ht (by omega)⟩
 case hIr2 =>
  rintro i V o ⟨h1,h2⟩ hlt
  exact ⟨h1,low_put h2 (by omega) o⟩
 case hIxr2 =>
  rintro c i V o ⟨h1,h2,h3,h4⟩ hlt
  have hgl:=(Array.getElem?_eq_some_iff.1 Q2.out.res).1
  exact ⟨h1,h2,(World.cell?_of_block (a:=⟨g2,0,none⟩) (World.putObj_heap_other (by show g2 ≠ _;omega))).trans h3,moz_low h4 (low_put (Below.refl _ _) (Nat.le_succ _) o) (Nat.le_refl _)⟩
 case hRc2 =>
  rintro i V V1 V3 o o' _ hb hd hr
  exact ((MoZ.of_below hb).trans (MoZ.put (X:=fun b=>b=w2.heap.size+1) rfl o)).trans (hr.trans (MoZ.put (X:=fun b=>b=w2.heap.size+1) rfl o'))
 case hRXc2 =>
  rintro V V1 V3 o o' hb hd hr
  exact ((MoZ.of_below hb).trans (MoZ.put (by omega) o)).trans (hr.trans (MoZ.put (by omega) o'))
 case h02 =>
  intro W1 hb hs1
  exact ⟨OkTo.zero _ _,hb⟩
 case hseq2 =>
  intro W1 J' Jx' hb hs1 hJ' hJx' hY' hJ0'
  have hle:=Q2.out.le
  have hls:=Q2.out.low.size
  exact params_in S ga B _ _ _ (fun b=>b=w2.heap.size+1) W1 (fun b hb'=>by subst hb';omega) (by omega) (low_block hb F1.out) (TS.low ((Q2.out.low.trans (hb.mono Q2.out.low.size)).mono HB.out) HS.out) (w2.heap.size+1) J' Jx' (fun i a b h ht=>hJ' i a b h (by rw [← hs1];exact ht)) (fun i a b h ht=>hJx' i a b h (by rw [← hs1];exact ht)) (fun i x V hi hj hL=>(hY' i x V hi hj hL).mono (fun e V' h=>by rw [← hs1] at h;exact h)) hJ0'
 case hround2 =>
  rintro i cs V hi ⟨h1,h2⟩ ⟨p,hx,hT⟩ hlt
  obtain ⟨E3,j3,E4,j4,rfl,HFC⟩:=var_cells hT
  have e0:∀ z:List Value,(#[10].zip ((fun cs=>#[.agg cs.toArray]) z:Array Value))=#[(10,.agg z.toArray)]:=fun z=>by simp
  simp only [e0]
  have H1:=Hd h1
  clear h1
  gi_wp2
  have hb9:=dbelow_new V (.cells #[.string p.name,.string p.tn,.int .i64 p.tl,.int .i64 p.tm,.bool p.has,.int .i64 p.v.kd,.int .i64 p.v.nn,.string p.v.ss,.slice E3 p.v.ls.len j3,.slice E4 p.v.ms.len j4] 60)
  have i9:=heap_alloc_new V (.cells #[.string p.name,.string p.tn,.int .i64 p.tl,.int .i64 p.tm,.bool p.has,.int .i64 p.v.kd,.int .i64 p.v.nn,.string p.v.ss,.slice E3 p.v.ls.len j3,.slice E4 p.v.ms.len j4] 60)
  generalize V.alloc (.cells #[.string p.name,.string p.tn,.int .i64 p.tl,.int .i64 p.tm,.bool p.has,.int .i64 p.v.kd,.int .i64 p.v.nn,.string p.v.ss,.slice E3 p.v.ls.len j3,.slice E4 p.v.ms.len j4] 60)=V0 at hb9 i9 ⊢
  have hsv:=h2.size
  have hle:=Q2.out.le
  have hls:=Q2.out.low.size
  have hgl:=(Array.getElem?_eq_some_iff.1 Q2.out.res).1
  have hgl1:=(Array.getElem?_eq_some_iff.1 Q2.out.box).1
  refine ⟨hb9.mono (by omega),hb9,⟨H1.out,h2.trans (hb9.mono h2.size)⟩,fun o=>?_⟩
  have hs9:=hb9.size
  have i9p:=(World.putObj_heap_other (w:=V0) (r:=w2.heap.size+1) (o:=o) (show V.heap.size ≠ w2.heap.size+1 by omega)).trans i9
  have L1:Below w2.heap.size w2 (V0.putObj (w2.heap.size+1) o):=low_put (h2.trans (hb9.mono h2.size)) (by omega) o
  have T1:TS (V0.putObj (w2.heap.size+1) o) (fun b=>b < B) (encVar p) [.string p.name,.string p.tn,.int .i64 p.tl,.int .i64 p.tm,.bool p.has,.int .i64 p.v.kd,.int .i64 p.v.nn,.string p.v.ss,.slice E3 p.v.ls.len j3,.slice E4 p.v.ms.len j4]:=TS.keep (fun b hb=>⟨hb,(World.putObj_heap_other (by omega)).trans (hb9.block b (by omega))⟩) _ _ hT
  have hs1:w2.heap.size+1 < (V0.putObj (w2.heap.size+1) o).heap.size:=by simp;omega
  generalize V0.putObj (w2.heap.size+1) o=V1 at i9p L1 T1 hs1 ⊢
  generalize V.heap.size=gb at i9p ⊢
  have QV:=Hd (Q2.out.next L1)
  have HT:=Hd T1
  have HX:=Hd hx
  have HL:=Hd L1
  have IB:=Hd i9p
  have hbV1:B≤V1.heap.size:=by omega
  have TSC:=Hd (TS.low (QV.out.low.mono HB.out) HS.out)
  clear h2 hx hT T1 L1 hb9 i9 i9p hs9 hlt hsv
  obtain ⟨u0,u1,u2⟩:=three_cells QV.out.box
  obtain ⟨⟨y0,y1,y2,y3,y4,y5,y6,y7,y8,y9⟩,_⟩:=ten_cells IB.out
  have HOKE:Hid (rt9P S.defs p=(!p.has || rightL S.defs ⟨p.tn,p.tl,p.tm,false,p.v⟩)):=Hd rfl
  cases hh:p.has
  · rw [hh] at y4 HOKE
    gi_wp2
    refine ⟨trivial,?_⟩
    gi_wp2
    have hb:=Below.refl V1.heap.size V1
    exact ⟨⟨hb.block _ hs1,hb.block _ (by omega)⟩,⟨H1.out.next HX.out (HOKE.out),HL.out.trans (hb.mono HL.out.size)⟩,MoZ.of_below hb⟩
  · rw [hh] at y4 HOKE
    have RR:=Hd (right_gen S p.tn p.tl p.tm p.v _ _ _ E3 E4 j3 j4 V1 B hbV1 (HW.out.below QV.out.low) HZ.out (Nat.le_trans (HPZ.out p (List.mem_of_getElem? HX.out)) (by decide)) HFC.2 TSC.out (var_val HT.out))
    obtain ⟨rr,hrr⟩:∃ b,rightL S.defs ⟨p.tn,p.tl,p.tm,false,p.v⟩=b:=⟨_,rfl⟩
    rw [hrr] at RR HOKE
    clear hrr
    cases rr
    · gi_wp2
      refine ⟨trivial,(CallsIn.inRound _ (callsIn_wide.2 RR.out)).mono ?_⟩
      rintro e V2 ⟨rfl,hb⟩
      have B2:=Hd hb
      clear hb u0 u1 u2 y0 y1 y2 y3 y4 y5 y6 y7 y8 y9
      obtain ⟨q0,q1⟩:=one_box (low_block B2.out QV.out.res)
      gi_wp2
      have hb:=B2.out
      first
       | exact ⟨⟨(Below.heap_setCell _ _ _ _ (by show _ ≠ g2;omega)).trans (hb.block _ hs1),(Below.heap_setCell _ _ _ _ (by show _ ≠ g2;omega)).trans (hb.block _ (by omega))⟩,⟨rfl,⟨_,HX.out,HOKE.out⟩,World.cell?_setCell_same' _ _ _ (by rw [q0];rfl),(MoZ.of_below (HL.out.trans (hb.mono HL.out.size))).trans moz_set⟩,(MoZ.of_below hb).trans (moz_set.mono (fun b hb'=>by show b < _;omega))⟩
       | exact ⟨⟨(Below.heap_setCell _ _ _ _ (by show _ ≠ g2;omega)).trans (hb.block _ hs1),(Below.heap_setCell _ _ _ _ (by show _ ≠ g2;omega)).trans (hb.block _ (by omega))⟩,rfl,⟨_,HX.out,HOKE.out⟩,World.cell?_setCell_same' _ _ _ (by rw [q0];rfl),(MoZ.of_below (HL.out.trans (hb.mono HL.out.size))).trans moz_set,(MoZ.of_below hb).trans (moz_set.mono (fun b hb'=>by show b < _;omega))⟩
    · gi_wp2
      refine ⟨trivial,(CallsIn.inRound _ (callsIn_wide.2 RR.out)).mono ?_⟩
      rintro e V2 ⟨rfl,hb⟩
      have B2:=Hd hb
      clear hb u0 u1 u2 y0 y1 y2 y3 y4 y5 y6 y7 y8 y9
      gi_wp2
      have hb:=B2.out
      exact ⟨⟨hb.block _ hs1,hb.block _ (by omega)⟩,⟨H1.out.next HX.out (HOKE.out),HL.out.trans (hb.mono HL.out.size)⟩,MoZ.of_below hb⟩
 case hdone2 =>
  rintro V ⟨h1,h2⟩ hK
  have QD:=Hd (Q2.out.next h2)
  have HA1:=Hd h1
  have MK:=Hd hK
  clear h1 h2 hK
  obtain ⟨y0,y1,y2⟩:=three_cells QD.out.box
  go_wp2_with fail
  clear y0 y1 y2
  go_loopg [25] S.defs.length (fun g i wx=>∃ q:Nat,q+g=S.defs.length∧i=.int .i64 q∧Aside ((S.defs.take q).all (lf9D S.defs)=true∧Below V.heap.size V wx))
  case atStart=>exact ⟨0,by omega,rfl,Blk.Aside.intro ⟨rfl,Below.refl _ _⟩⟩
  case round =>
    obtain ⟨q,hq,rfl,HX⟩:=hrel
    have HI:=Hd HX.out.1
    have BN:=Hd HX.out.2
    clear HX
    cases gk with
    | zero =>
      obtain rfl:q=S.defs.length:=by omega
      have HA2:=Hd (all_take_end HI.out)
      have HR9:Hid (rule9B S=true):=Hd (by unfold rule9B;rw [HA1.out.all,HA2.out];rfl)
      obtain ⟨q0,q1⟩:=one_box (low_block BN.out QD.out.res)
      go_wp2_with fail
      have hgl:=(Array.getElem?_eq_some_iff.1 Q2.out.res).1
      have hls:=Q2.out.low.size
      have hc:=World.cell?_setCell_same' wr ⟨g2,0,none⟩ (.bool true) (by rw [q0];rfl)
      refine postM_mark (D:=w2.heap.size) rfl ((Below.heap_setCell _ _ _ _ (by show w2.heap.size ≠ g2;omega)).trans (low_block BN.out MK.out)) (fun w' hb=>res_bool rfl rfl ((World.cell?_of_block (a:=⟨g2,0,none⟩) (hb g2 (by omega))).trans hc)) (fun w' e1 e2 e3 e4 hb=>⟨by rw [HR9.out],QD.out.done ((MoZ.of_below BN.out).trans moz_set) e1 e2 e3 e4 (fun b hlt=>hb b (by omega))⟩)
    | succ g =>
      have hqn:q < S.defs.length:=by omega
      have hqn':(q:Int) < (S.defs.length:Int):=by omega
      obtain ⟨d,hx⟩:∃ x,S.defs[q]? = some x:=⟨_,List.getElem?_eq_getElem hqn⟩
      obtain ⟨b,o,cs,rfl,hb,hc,hT⟩:=rowOf_at 6 defn_len HR.out hx
      have HBL:=Hd (Nat.lt_of_lt_of_le hb HB.out)
      obtain ⟨Af,kf,Ax,kx,Ap,kp,Am,km,rfl,_,_,_,_,hpl,hfm⟩:=defn_cells hT
      have LW:=QD.out.low.trans (BN.out.mono QD.out.low.size)
      have x0:=(LW.cell (p:=⟨b,o+q*6,none⟩) HBL.out).trans (hc 0 _ rfl)
      have x1:=(LW.cell (p:=⟨b,o+q*6+1,none⟩) HBL.out).trans (hc 1 _ rfl)
      have x2:=(LW.cell (p:=⟨b,o+q*6+2,none⟩) HBL.out).trans (hc 2 _ rfl)
      have x3:=(LW.cell (p:=⟨b,o+q*6+3,none⟩) HBL.out).trans (hc 3 _ rfl)
      have x4:=(LW.cell (p:=⟨b,o+q*6+4,none⟩) HBL.out).trans (hc 4 _ rfl)
      have x5:=(LW.cell (p:=⟨b,o+q*6+5,none⟩) HBL.out).trans (hc 5 _ rfl)
      have HYE:=Hd (fun h=>all_take_next (p:=lf9D S.defs) HI.out hx h)
      have HNO:=Hd (fun h=>all_take_no (p:=lf9D S.defs) hx h)
      have HUD:Hid (lf9D S.defs d=d.params.all (lf9P S.defs)):=Hd rfl
      generalize lf9D S.defs d=ud at HYE HNO HUD
      have HPM:=Hd hfm
      clear hx hb hc hT hfm LW
      go_upto_region 8 with fail
      clear x0 x1 x2 x3 x4 x5
      have bn:=dbelow_new wr (.cells #[.int .i64 d.kind,.string d.name,.slice Af d.faces.length kf,.slice Ax d.fields.length kx,.slice Ap d.parts.length kp,.slice Am d.params.length km] 37)
      have B2:=Hd (BN.out.trans (bn.mono BN.out.size))
      have YN:=Hd (heap_alloc_new wr (.cells #[.int .i64 d.kind,.string d.name,.slice Af d.faces.length kf,.slice Ax d.fields.length kx,.slice Ap d.parts.length kp,.slice Am d.params.length km] 37))
      generalize wr.alloc (.cells #[.int .i64 d.kind,.string d.name,.slice Af d.faces.length kf,.slice Ax d.fields.length kx,.slice Ap d.parts.length kp,.slice Am d.params.length km] 37)=v0 at B2 YN ⊢
      generalize wr.heap.size=gd at YN ⊢
      clear bn BN
      obtain ⟨⟨y0,y1,y2,y3,y4,y5⟩,_⟩:=six_cells YN.out
      go_wp2_with fail
      clear y0 y1 y2 y3 y4 y5
      go_loopg [32] d.params.length (fun g2 i wx=>∃ z:Nat,z+g2=d.params.length∧i=.int .i64 z∧Aside ((d.params.take z).all (lf9P S.defs)=true∧Below V.heap.size V wx))
      case atStart=>exact ⟨0,by omega,rfl,Blk.Aside.intro ⟨rfl,B2.out⟩⟩
      case round =>
       obtain ⟨z,hz,rfl,HX⟩:=hrel
       have HJ:=Hd HX.out.1
       have BN:=Hd HX.out.2
       clear HX B2 YN
       cases gk with
       | zero =>
         obtain rfl:z=d.params.length:=by omega
         have HA:=Hd (HYE.out (HUD.out.trans (all_take_end HJ.out)))
         go_wp2_with fail
         go_roundg g
         case measure=>omega
         case rel=>exact ⟨q+1,by omega,by go_num,Blk.Aside.intro ⟨HA.out,BN.out⟩⟩
       | succ gz =>
         have hzn:z < d.params.length:=by omega
         have hzn':(z:Int) < (d.params.length:Int):=by omega
         obtain ⟨p,hx⟩:∃ x,d.params[z]? = some x:=⟨_,List.getElem?_eq_getElem hzn⟩
         obtain ⟨b,o,cs,rfl,hb,hc,hT⟩:=rowOf_at 10 len_par HPM.out hx
         have HBL:=Hd (Nat.lt_of_lt_of_le hb HB.out)
         obtain ⟨E3,j3,E4,j4,rfl,_,htn⟩:=var_cells hT
         have LW:=QD.out.low.trans (BN.out.mono QD.out.low.size)
         have x0:=(LW.cell (p:=⟨b,o+z*10,none⟩) HBL.out).trans (hc 0 _ rfl)
         have x1:=(LW.cell (p:=⟨b,o+z*10+1,none⟩) HBL.out).trans (hc 1 _ rfl)
         have x2:=(LW.cell (p:=⟨b,o+z*10+2,none⟩) HBL.out).trans (hc 2 _ rfl)
         have x3:=(LW.cell (p:=⟨b,o+z*10+3,none⟩) HBL.out).trans (hc 3 _ rfl)
         have x4:=(LW.cell (p:=⟨b,o+z*10+4,none⟩) HBL.out).trans (hc 4 _ rfl)
         have x5:=(LW.cell (p:=⟨b,o+z*10+5,none⟩) HBL.out).trans (hc 5 _ rfl)
         have x6:=(LW.cell (p:=⟨b,o+z*10+6,none⟩) HBL.out).trans (hc 6 _ rfl)
         have x7:=(LW.cell (p:=⟨b,o+z*10+7,none⟩) HBL.out).trans (hc 7 _ rfl)
         have x8:=(LW.cell (p:=⟨b,o+z*10+8,none⟩) HBL.out).trans (hc 8 _ rfl)
         have x9:=(LW.cell (p:=⟨b,o+z*10+9,none⟩) HBL.out).trans (hc 9 _ rfl)
         have HY2:=Hd (fun h=>all_take_next (p:=lf9P S.defs) HJ.out hx h)
         have HN2:=Hd (fun h=>all_take_no (p:=lf9P S.defs) hx h)
         have HU:Hid (lf9P S.defs p=(!p.has || leafD S.defs p.tn)):=Hd rfl
         generalize lf9P S.defs p=ub at HY2 HN2 HU
         clear hx hb hc hT LW
         go_upto_region 11 with fail
         clear x0 x1 x2 x3 x4 x5 x6 x7 x8 x9
         have bn:=dbelow_new wr (.cells #[.string p.name,.string p.tn,.int .i64 p.tl,.int .i64 p.tm,.bool p.has,.int .i64 p.v.kd,.int .i64 p.v.nn,.string p.v.ss,.slice E3 p.v.ls.len j3,.slice E4 p.v.ms.len j4] 60)
         have B3:=Hd (BN.out.trans (bn.mono BN.out.size))
         have YN:=Hd (heap_alloc_new wr (.cells #[.string p.name,.string p.tn,.int .i64 p.tl,.int .i64 p.tm,.bool p.has,.int .i64 p.v.kd,.int .i64 p.v.nn,.string p.v.ss,.slice E3 p.v.ls.len j3,.slice E4 p.v.ms.len j4] 60))
         generalize wr.alloc (.cells #[.string p.name,.string p.tn,.int .i64 p.tl,.int .i64 p.tm,.bool p.has,.int .i64 p.v.kd,.int .i64 p.v.nn,.string p.v.ss,.slice E3 p.v.ls.len j3,.slice E4 p.v.ms.len j4] 60)=v1 at B3 YN ⊢
         generalize wr.heap.size=gp at YN ⊢
         clear bn BN
         obtain ⟨⟨y0,y1,y2,y3,y4,y5,y6,y7,y8,y9⟩,_⟩:=ten_cells YN.out
         obtain ⟨u0,u1,u2⟩:=three_cells (low_block B3.out QD.out.box)
         cases hh:p.has with
         | false =>
           rw [hh] at y4 HU
           have HA:=Hd (HY2.out (HU.out.trans rfl))
           go_wp2_with fail
           go_roundg gz
           case measure=>omega
           case rel=>exact ⟨z+1,by omega,by go_num,Blk.Aside.intro ⟨HA.out,B3.out⟩⟩
         | true =>
           rw [hh] at y4 HU
           have LC:=Hd (leaf_any S p.tn _ _ _ v1 B (Nat.le_trans HB.out (Nat.le_trans QD.out.low.size B3.out.size)) htn (TS.low ((QD.out.low.trans (B3.out.mono QD.out.low.size)).mono HB.out) HS.out))
           obtain ⟨lc,hlc⟩:∃ b,leafD S.defs p.tn=b:=⟨_,rfl⟩
           rw [hlc] at LC HU
           clear hlc
           go_wp2_with fail
           refine LC.out.mono ?_
           rintro e VN ⟨rfl,hb⟩
           have BN:=Hd (B3.out.trans (hb.mono B3.out.size))
           clear hb y0 y1 y2 y3 y4 y5 y6 y7 y8 y9 u0 u1 u2 B3 YN LC
           cases lc with
           | false =>
             have HR9:Hid (rule9B S=false):=Hd (by unfold rule9B;rw [HNO.out (HUD.out.trans (HN2.out (HU.out.trans rfl))),Bool.and_false])
             obtain ⟨q0,q1⟩:=one_box (low_block BN.out QD.out.res)
             go_wp2_with fail
             have hgl:=(Array.getElem?_eq_some_iff.1 Q2.out.res).1
             have hls:=Q2.out.low.size
             have hc:=World.cell?_setCell_same' VN ⟨g2,0,none⟩ (.bool false) (by rw [q0];rfl)
             refine postM_mark (D:=w2.heap.size) rfl ((Below.heap_setCell _ _ _ _ (by show w2.heap.size ≠ g2;omega)).trans (low_block BN.out MK.out)) (fun w' hb=>res_bool rfl rfl ((World.cell?_of_block (a:=⟨g2,0,none⟩) (hb g2 (by omega))).trans hc)) (fun w' e1 e2 e3 e4 hb=>⟨by rw [HR9.out],QD.out.done ((MoZ.of_below BN.out).trans moz_set) e1 e2 e3 e4 (fun b hlt=>hb b (by omega))⟩)
           | true =>
             have HA:=Hd (HY2.out (HU.out.trans rfl))
             go_wp2_with fail
             go_roundg gz
             case measure=>omega
             case rel=>exact ⟨z+1,by omega,by go_num,Blk.Aside.intro ⟨HA.out,BN.out⟩⟩
 case hstop2 =>
  rintro c i V hi ⟨rfl,hno,h3,h4⟩ hK
  refine wpIn_wide.2 ?_
  have HR:Hid (rule9B S=false):=Hd (by unfold rule9B;rw [hno.all,Bool.false_and])
  have HC:=Hd h3
  have HM:=Hd h4
  have HK:=Hd hK
  clear h3 h4 hno hK
  go_wp2_with fail
  have hgl:=(Array.getElem?_eq_some_iff.1 Q2.out.res).1
  have hls:=Q2.out.low.size
  refine postM_mark (D:=w2.heap.size) rfl HK.out (fun w' hb=>res_bool rfl rfl ((World.cell?_of_block (a:=⟨g2,0,none⟩) (hb g2 (by omega))).trans HC.out)) (fun w' e1 e2 e3 e4 hb=>⟨by rw [HR.out],Q2.out.done HM.out e1 e2 e3 e4 (fun b hlt=>hb b (by omega))⟩)
structure OkS (S:SchT):Prop where
 mod:ModS S
 part:PartS S
 slim:SlimS S
 len:S.defs.length < maxLen
 names:∀ d,d ∈ S.defs→d.name.size≤maxLen
 faces:∀ d,d ∈ S.defs→d.faces.length < maxLen
 keys:2*S.defs.length+2*(allDP S.defs).length≤1099511627776
theorem mems_size:∀ (m:VM) (y:ByteArray × VT),y ∈ m.list→sizeV y.2≤sizeM m
 | .nil,y,h=>by simp [VM.list] at h
 | .cons n v t,y,h=>by
   rw [VM.list] at h
   rw [sizeM]
   rcases List.mem_cons.1 h with rfl|h
   · show sizeV v≤_
     omega
   · have:=mems_size t y h
     omega
theorem par_size {l:List VarT} {p:VarT} (h:p ∈ l):sizeV p.v+1≤parN l:=by
 have h1:parF p≤parN l:=sum_part h
 unfold parF at h1
 omega
theorem par_len (l:List VarT):l.length≤parN l:=by
 induction l with
 | nil=>exact Nat.zero_le _
 | cons p t ih =>
   have:parN (p :: t)=parF p+parN t:=by unfold parN;rw [List.map_cons,List.sum_cons]
   rw [this,List.length_cons]
   unfold parF
   omega
theorem txt_size {l:List ByteArray} {s:ByteArray} (h:s ∈ l):s.size+1≤txtN l:=by
 have h1:szN s≤txtN l:=sum_part h
 unfold szN at h1
 exact h1
theorem defs_len (D:List DefnT):D.length≤(D.map defN).sum∧(allDP D).length≤(D.map defN).sum:=by
 induction D with
 | nil=>exact ⟨Nat.zero_le _,Nat.zero_le _⟩
 | cons d t ih =>
   have h1:=par_len d.params
   have h2:(allDP (d :: t)).length=d.params.length+(allDP t).length:=by unfold allDP;rw [List.flatMap_cons,List.length_append]
   rw [List.map_cons,List.sum_cons,List.length_cons,h2]
   have h3:1+parN d.params≤defN d:=by unfold defN;omega
   omega
theorem okS_of {S:SchT} (hz:ligN S≤4000) (hs:SlimS S):OkS S:=by
 have hd:∀ d,d ∈ S.defs→defN d≤4000:=fun d hd=>Nat.le_trans (sum_part (f:=defN) hd) hz
 have hl:=defs_len S.defs
 have hz':(S.defs.map defN).sum≤4000:=hz
 refine ⟨fun d h=>⟨fun y hy=>?_,fun f hf=>⟨fun y hy=>?_,fun e he y hy=>?_⟩⟩,fun d h s hs=>?_,hs,by unfold maxLen;omega,fun d h=>?_,fun d h=>?_,by omega⟩
 · have h1:=hd d h
   have h2:=par_size hy
   unfold defN at h1
   omega
 · have h1:=hd d h
   have h2:=par_size hy
   have h3:fldN f≤(d.fields.map fldN).sum:=sum_part hf
   have h6:parN f.params+dirN f.dirs≤fldN f:=by unfold fldN;omega
   unfold defN at h1
   omega
 · have h1:=hd d h
   have h2:=mems_size e.2 y hy
   have h3:fldN f≤(d.fields.map fldN).sum:=sum_part hf
   have h4:dirF e≤dirN f.dirs:=sum_part he
   unfold dirF at h4
   rw [sizeV,sizeL] at h4
   have h5:(⟨#[]⟩:ByteArray).size=0:=rfl
   have h6:parN f.params+dirN f.dirs≤fldN f:=by unfold fldN;omega
   unfold defN at h1
   omega
 · have h1:=hd d h
   have h2:=txt_size hs
   unfold defN at h1
   omega
 · have h1:=hd d h
   unfold defN at h1
   unfold maxLen
   omega
 · have h1:=(hs.2 d h).1
   unfold maxLen
   omega
noncomputable def bS (S:SchT) (n:Nat):Bool:=
 if n=1 then rule1B S else if n=2 then rule2B S else if n=3 then rule3B S else if n=4 then rule4B S else if n=5 then rule5B S else if n=6 then rule6B S else if n=7 then rule7B S else if n=8 then rule8B S else rule9B S
noncomputable def checkS (S:SchT):Int:=checkN (bS S)
theorem rules_all (S:SchT) (ok:OkS S) (A:Option Addr) (k:Nat) (w:World) (B:Nat) (hB:B≤w.heap.size) (hS:TS w (fun b=>b < B) (encSch S) [.slice A S.defs.length k,.string S.query,.string S.mutation]) (hw:Laid5 w) :
   RulesC A S.defs.length k S.query S.mutation (bS S) w:=
 have up:∀ wx,Below w.heap.size w wx→B≤wx.heap.size:=fun _ hb=>Nat.le_trans hB hb.size
 have ts:∀ wx,Below w.heap.size w wx→TS wx (fun b=>b < B) (encSch S) [.slice A S.defs.length k,.string S.query,.string S.mutation]:=fun _ hb=>TS.low (hb.mono hB) hS
 ⟨fun wx hb=>rule1_any S ok.mod ok.part ok.len ok.names _ _ _ wx B (up wx hb) (ts wx hb) (hw.below hb),
  fun wx hb=>rule2_any S _ _ _ wx B (up wx hb) ok.slim (ts wx hb),
  fun wx hb=>rule3_any S ok.slim _ _ _ wx B (up wx hb) (ts wx hb),
  fun wx hb=>rule4_any S _ _ _ wx B (up wx hb) (ts wx hb),
  fun wx hb=>rule5_any S ok.faces _ _ _ wx B (up wx hb) ok.slim (ts wx hb),
  fun wx hb=>rule6_any S ok.slim _ _ _ wx B (up wx hb) (ts wx hb),
  fun wx hb=>rule7_any S _ _ _ wx B (up wx hb) ok.slim (ts wx hb),
  fun wx hb=>rule8_any S ok.slim ok.keys _ _ _ wx B (up wx hb) (ts wx hb),
  fun wx hb=>rule9_any S ok.mod ok.slim _ _ _ wx B (up wx hb) (ts wx hb) (hw.below hb)⟩
theorem check_all (S:SchT) (ok:OkS S) (c0 c1 c2:Value) (w:World) (B:Nat) (hB:B≤w.heap.size) (hS:TS w (fun b=>b < B) (encSch S) [c0,c1,c2]) (hw:Laid5 w) :
  Calls Tryz.prog 14 #[.agg #[c0,c1,c2]] w fun e w'=>e=.returned (.int .i64 (checkS S))∧Below w.heap.size w w':=by
 obtain ⟨A,k,e,hl,hR⟩:=sch_cells hS
 injection e with e0 e
 injection e with e1 e
 injection e with e2 e
 subst e0 e1 e2
 exact check_any A _ k _ _ (bS S) w (rules_all S ok A k w B hB hS hw)
theorem check_full {S:SchT} (h:∀ k,1≤k→k < 10→bS S k=true):checkS S=0:=by
 unfold checkS checkN
 simp only [firstN,h 1 (by omega) (by omega),h 2 (by omega) (by omega),h 3 (by omega) (by omega),h 4 (by omega) (by omega),h 5 (by omega) (by omega),h 6 (by omega) (by omega),h 7 (by omega) (by omega),h 8 (by omega) (by omega),h 9 (by omega) (by omega),if_true]
def boundB (S:SchT) (d:DefnT):Bool:=d.fields.all fun f=>(ofT S d.name f).2
def servD (S:SchT) (d:DefnT):Bool:=!(d.kind == 1) || boundB S d
noncomputable def servB (S:SchT):Bool:=(checkS S == 0) && S.defs.all (servD S)
theorem bound_any (S:SchT) (d:DefnT) (c0 c1 c2 d0 d1 d2 d3 d4 d5:Value) (w:World) (B:Nat) (hB:B≤w.heap.size) (hz:SlimS S) (hS:TS w (fun b=>b < B) (encSch S) [c0,c1,c2]) (hD:TS w (fun b=>b < B) (encDefn d) [d0,d1,d2,d3,d4,d5]) :
  Calls Tryz.prog 48 #[.agg #[c0,c1,c2],.agg #[d0,d1,d2,d3,d4,d5]] w fun e w'=>e=.returned (.bool (boundB S d))∧Below w.heap.size w w':=by
 have OF:=Hd (fun (f:FieldT) (e0 e1 e2 e3 e4 e5:Value) (wx:World) (h:Below w.heap.size w wx) (hF:TS w (fun b=>b < B) (encField f) [e0,e1,e2,e3,e4,e5])=>of_any S d.name f c0 c1 c2 e0 e1 e2 e3 e4 e5 wx B (Nat.le_trans hB h.size) hz (TS.low (h.mono hB) hS) (TS.low (h.mono hB) hF))
 have HB0:=Hd hB
 obtain ⟨Af,kf,Ax,kx,Ap,kp,Am,km,e,_,_,⟨hl,hR⟩,_⟩:=defn_cells hD
 simp only [List.cons.injEq,and_true] at e
 obtain ⟨rfl,rfl,rfl,rfl,rfl,rfl⟩:=e
 obtain ⟨A,k,e,_⟩:=sch_cells hS
 injection e with e0 e
 injection e with e1 e
 injection e with e2 e
 subst e0 e1 e2
 have HR:=Hd hR
 clear hB hz hS hD e hR
 have HQ:Hid (boundB S d=d.fields.all fun f=>(ofT S d.name f).2):=Hd rfl
 generalize boundB S d=Q at HQ ⊢
 have B0:=Hd (tbl w (.cells #[.slice A S.defs.length k,.string S.query,.string S.mutation] 24) (.cells #[.int .i64 d.kind,.string d.name,.slice Af d.faces.length kf,.slice Ax d.fields.length kx,.slice Ap d.parts.length kp,.slice Am d.params.length km] 37))
 have Y0:=Hd (((dbelow_new (w.alloc (.cells #[.slice A S.defs.length k,.string S.query,.string S.mutation] 24)) (.cells #[.int .i64 d.kind,.string d.name,.slice Af d.faces.length kf,.slice Ax d.fields.length kx,.slice Ap d.parts.length kp,.slice Am d.params.length km] 37)).block w.heap.size (by simp)).trans (heap_alloc_new w (.cells #[.slice A S.defs.length k,.string S.query,.string S.mutation] 24)))
 have Z0:=Hd (heap_two w (.cells #[.slice A S.defs.length k,.string S.query,.string S.mutation] 24) (.cells #[.int .i64 d.kind,.string d.name,.slice Af d.faces.length kf,.slice Ax d.fields.length kx,.slice Ap d.parts.length kp,.slice Am d.params.length km] 37))
 obtain ⟨gd,hgd⟩:∃ b,w.heap.size+1=b:=⟨_,rfl⟩
 rw [hgd] at Z0
 go_enter Tryz.func48,Tryz.ntmps48
 go_upto_region 1 with fail
 generalize (w.alloc (.cells #[.slice A S.defs.length k,.string S.query,.string S.mutation] 24)).alloc (.cells #[.int .i64 d.kind,.string d.name,.slice Af d.faces.length kf,.slice Ax d.fields.length kx,.slice Ap d.parts.length kp,.slice Am d.params.length km] 37)=w1 at B0 Y0 Z0 ⊢
 clear hgd
 obtain ⟨⟨v0,v1,v2,v3,v4,v5⟩,_⟩:=six_cells Z0.out
 go_wp2_with fail
 clear v0 v1 v2 v3 v4 v5
 go_loopg [12] d.fields.length (fun g i wx=>∃ q:Nat,q+g=d.fields.length∧i=.int .i64 q∧Aside ((d.fields.take q).all (fun f=>(ofT S d.name f).2)=true∧wx.heap[w.heap.size]? = some (.cells #[.slice A S.defs.length k,.string S.query,.string S.mutation] 24 (0,0))∧wx.heap[gd]? = some (.cells #[.int .i64 d.kind,.string d.name,.slice Af d.faces.length kf,.slice Ax d.fields.length kx,.slice Ap d.parts.length kp,.slice Am d.params.length km] 37 (0,0))∧Below w.heap.size w wx))
 case atStart=>exact ⟨0,by omega,rfl,Blk.Aside.intro ⟨rfl,Y0.out,Z0.out,B0.out⟩⟩
 case round =>
  obtain ⟨q,hq,rfl,HX⟩:=hrel
  have HE:=Hd HX.out.1
  have YX:=Hd HX.out.2.1
  have ZX:=Hd HX.out.2.2.1
  have BX:=Hd HX.out.2.2.2
  clear HX
  cases gk with
  | zero =>
    obtain rfl:q=d.fields.length:=by omega
    have HE2:=Hd (all_take_end HE.out)
    go_wp2_with fail
    go_ret
    exact ⟨by rw [HQ.out,HE2.out];rfl,BX.out⟩
  | succ g =>
    have hqn:q < d.fields.length:=by omega
    have hqn':(q:Int) < (d.fields.length:Int):=by omega
    obtain ⟨f,hx⟩:∃ x,d.fields[q]? = some x:=⟨_,List.getElem?_eq_getElem hqn⟩
    obtain ⟨b,o,cs,rfl,hb,hc,hT⟩:=rowOf_at 6 (fun _=>rfl) HR.out hx
    have HBL:=Hd (Nat.lt_of_lt_of_le hb HB0.out)
    obtain ⟨Aq,kq,Ad,kd,rfl,_⟩:=fld_cells hT
    have g0:=(BX.out.cell (p:=⟨b,o+q*6,none⟩) HBL.out).trans (hc 0 _ rfl)
    have g1:=(BX.out.cell (p:=⟨b,o+q*6+1,none⟩) HBL.out).trans (hc 1 _ rfl)
    have g2:=(BX.out.cell (p:=⟨b,o+q*6+2,none⟩) HBL.out).trans (hc 2 _ rfl)
    have g3:=(BX.out.cell (p:=⟨b,o+q*6+3,none⟩) HBL.out).trans (hc 3 _ rfl)
    have g4:=(BX.out.cell (p:=⟨b,o+q*6+4,none⟩) HBL.out).trans (hc 4 _ rfl)
    have g5:=(BX.out.cell (p:=⟨b,o+q*6+5,none⟩) HBL.out).trans (hc 5 _ rfl)
    have HN:=Hd (fun h=>all_take_next (p:=fun f=>(ofT S d.name f).2) HE.out hx h)
    have HM:=Hd (fun h=>all_take_no (p:=fun f=>(ofT S d.name f).2) hx h)
    have OF1:=Hd (fun (wx:World) (h:Below w.heap.size w wx)=>OF.out f _ _ _ _ _ _ wx h hT)
    obtain ⟨x,ok,hxx⟩:∃ x o,ofT S d.name f=(x,o):=⟨_,_,rfl⟩
    rw [hxx] at OF1
    have HN:=Hd (fun (h:ok=true)=>HN.out (by rw [hxx];exact h))
    have HM:=Hd (fun (h:ok=false)=>HM.out (by rw [hxx];exact h))
    clear hx hb hc hT hxx
    go_upto_region 4 with fail
    clear g0 g1 g2 g3 g4 g5
    have bn:=dbelow_new wr (.cells #[.string f.name,.slice Aq f.params.length kq,.string f.tn,.int .i64 f.tl,.int .i64 f.tm,.slice Ad f.dirs.length kd] 46)
    have B2:=Hd (BX.out.trans (bn.mono BX.out.size))
    have Y2:=Hd ((bn.block _ (Array.getElem?_eq_some_iff.1 YX.out).1).trans YX.out)
    have Z2:=Hd ((bn.block _ (Array.getElem?_eq_some_iff.1 ZX.out).1).trans ZX.out)
    have F2:=Hd (heap_alloc_new wr (.cells #[.string f.name,.slice Aq f.params.length kq,.string f.tn,.int .i64 f.tl,.int .i64 f.tm,.slice Ad f.dirs.length kd] 46))
    generalize wr.alloc (.cells #[.string f.name,.slice Aq f.params.length kq,.string f.tn,.int .i64 f.tl,.int .i64 f.tm,.slice Ad f.dirs.length kd] 46)=w2 at B2 Y2 Z2 F2 ⊢
    generalize wr.heap.size=gf at F2 ⊢
    clear bn YX ZX BX
    obtain ⟨z0,z1,z2⟩:=three_cells Y2.out
    obtain ⟨⟨v0,v1,v2,v3,v4,v5⟩,_⟩:=six_cells Z2.out
    obtain ⟨⟨y0,y1,y2,y3,y4,y5⟩,_⟩:=six_cells F2.out
    go_wp2_with fail
    refine (OF1.out _ B2.out).mono ?_
    rintro e w3 ⟨rfl,hb⟩
    have B3:=Hd (B2.out.trans (hb.mono B2.out.size))
    have Y3:=Hd ((hb.block _ (Array.getElem?_eq_some_iff.1 Y2.out).1).trans Y2.out)
    have Z3:=Hd ((hb.block _ (Array.getElem?_eq_some_iff.1 Z2.out).1).trans Z2.out)
    clear hb B2 Y2 Z2 F2 z0 z1 z2 v0 v1 v2 v3 v4 v5 y0 y1 y2 y3 y4 y5 OF1
    unfold bindV
    have bn:=dbelow_new w3 (.cells #[.int .i64 x.how,.string x.table,.string x.col,.string x.arg,.string x.cmd] 51)
    have B4:=Hd (B3.out.trans (bn.mono B3.out.size))
    have Y4:=Hd ((bn.block _ (Array.getElem?_eq_some_iff.1 Y3.out).1).trans Y3.out)
    have Z4:=Hd ((bn.block _ (Array.getElem?_eq_some_iff.1 Z3.out).1).trans Z3.out)
    clear bn
    cases ok with
    | false =>
      have HF:=Hd (HM.out rfl)
      go_wp2_with fail
      go_ret
      exact ⟨by rw [HQ.out,HF.out];rfl,B4.out⟩
    | true =>
      have HT:=Hd (HN.out rfl)
      go_wp2_with fail
      go_roundg g
      case measure=>omega
      case rel=>exact ⟨q+1,by omega,by go_num,Blk.Aside.intro ⟨HT.out,Y4.out,Z4.out,B4.out⟩⟩
theorem bcheck_any (S:SchT) (ok:OkS S) (c0 c1 c2:Value) (w:World) (B:Nat) (hB:B≤w.heap.size) (hS:TS w (fun b=>b < B) (encSch S) [c0,c1,c2]) (hw:Laid5 w) :
   Calls Tryz.prog 23 #[.agg #[c0,c1,c2]] w fun e w'=>e=.returned (.bool (servB S))∧Below w.heap.size w w':=by
 have CK:=Hd (fun (wx:World) (h:Below w.heap.size w wx)=>check_all S ok c0 c1 c2 wx B (Nat.le_trans hB h.size) (TS.low (h.mono hB) hS) (hw.below h))
 have BO:=Hd (fun (d:DefnT) (e0 e1 e2 e3 e4 e5:Value) (wx:World) (h:Below w.heap.size w wx) (hD:TS w (fun b=>b < B) (encDefn d) [e0,e1,e2,e3,e4,e5])=>bound_any S d c0 c1 c2 e0 e1 e2 e3 e4 e5 wx B (Nat.le_trans hB h.size) ok.slim (TS.low (h.mono hB) hS) (TS.low (h.mono hB) hD))
 have HB0:=Hd hB
 obtain ⟨A,k,e,hl,hR⟩:=sch_cells hS
 injection e with e0 e
 injection e with e1 e
 injection e with e2 e
 subst e0 e1 e2
 have HR:=Hd hR
 clear hB hS e hR hw ok
 have HQ:Hid (servB S=((checkS S == 0) && S.defs.all (servD S))):=Hd rfl
 generalize servB S=Q at HQ ⊢
 obtain ⟨kz,hkz⟩:∃ x,checkS S=x:=⟨_,rfl⟩
 rw [hkz] at CK HQ
 clear hkz
 have B0:=Hd (dbelow_new w (.cells #[.slice A S.defs.length k,.string S.query,.string S.mutation] 24))
 have Y0:=Hd (heap_alloc_new w (.cells #[.slice A S.defs.length k,.string S.query,.string S.mutation] 24))
 go_enter Tryz.func23,Tryz.ntmps23
 go_upto_region 1 with fail
 generalize w.alloc (.cells #[.slice A S.defs.length k,.string S.query,.string S.mutation] 24)=w1 at B0 Y0 ⊢
 obtain ⟨z0,z1,z2⟩:=three_cells Y0.out
 cases ek:(kz == 0) with
 | false =>
   rw [ek] at HQ
   go_wp2_with fail
   refine (CK.out _ B0.out).mono ?_
   rintro e w2 ⟨rfl,hb⟩
   have B2:=Hd (B0.out.trans (hb.mono B0.out.size))
   clear hb
   go_wp2_with fail
   go_ret
   exact ⟨by rw [HQ.out];rfl,B2.out⟩
 | true =>
   rw [ek] at HQ
   obtain rfl:kz=0:=eq_of_beq ek
   clear ek
   go_wp2_with fail
   refine (CK.out _ B0.out).mono ?_
   rintro e w2 ⟨rfl,hb⟩
   have B2:=Hd (B0.out.trans (hb.mono B0.out.size))
   have Y2:=Hd ((hb.block _ (Array.getElem?_eq_some_iff.1 Y0.out).1).trans Y0.out)
   clear hb z0 z1 z2 B0 Y0 CK
   obtain ⟨z0,z1,z2⟩:=three_cells Y2.out
   go_wp2_with fail
   clear z0 z1 z2
   go_loopg [11] S.defs.length (fun g i wx=>∃ q:Nat,q+g=S.defs.length∧i=.int .i64 q∧Aside ((S.defs.take q).all (servD S)=true∧wx.heap[w.heap.size]? = some (.cells #[.slice A S.defs.length k,.string S.query,.string S.mutation] 24 (0,0))∧Below w.heap.size w wx))
   case atStart=>exact ⟨0,by omega,rfl,Blk.Aside.intro ⟨rfl,Y2.out,B2.out⟩⟩
   case round =>
    obtain ⟨q,hq,rfl,HX⟩:=hrel
    have HE:=Hd HX.out.1
    have YX:=Hd HX.out.2.1
    have BX:=Hd HX.out.2.2
    clear HX
    cases gk with
    | zero =>
      obtain rfl:q=S.defs.length:=by omega
      have HE2:=Hd (all_take_end HE.out)
      go_wp2_with fail
      go_ret
      exact ⟨by rw [HQ.out,HE2.out];rfl,BX.out⟩
    | succ g =>
      have hqn:q < S.defs.length:=by omega
      have hqn':(q:Int) < (S.defs.length:Int):=by omega
      obtain ⟨d,hx⟩:∃ x,S.defs[q]? = some x:=⟨_,List.getElem?_eq_getElem hqn⟩
      obtain ⟨b,o,cs,rfl,hb,hc,hT⟩:=rowOf_at 6 defn_len HR.out hx
      have HBL:=Hd (Nat.lt_of_lt_of_le hb HB0.out)
      obtain ⟨Af,kf,Ax,kx,Ap,kp,Am,km,rfl,_⟩:=defn_cells hT
      have g0:=(BX.out.cell (p:=⟨b,o+q*6,none⟩) HBL.out).trans (hc 0 _ rfl)
      have g1:=(BX.out.cell (p:=⟨b,o+q*6+1,none⟩) HBL.out).trans (hc 1 _ rfl)
      have g2:=(BX.out.cell (p:=⟨b,o+q*6+2,none⟩) HBL.out).trans (hc 2 _ rfl)
      have g3:=(BX.out.cell (p:=⟨b,o+q*6+3,none⟩) HBL.out).trans (hc 3 _ rfl)
      have g4:=(BX.out.cell (p:=⟨b,o+q*6+4,none⟩) HBL.out).trans (hc 4 _ rfl)
      have g5:=(BX.out.cell (p:=⟨b,o+q*6+5,none⟩) HBL.out).trans (hc 5 _ rfl)
      have HN:=Hd (fun h=>all_take_next (p:=servD S) HE.out hx h)
      have HM:=Hd (fun h=>all_take_no (p:=servD S) hx h)
      have HD:Hid (servD S d=(!(d.kind == 1) || boundB S d)):=Hd rfl
      have BO1:=Hd (fun (wx:World) (h:Below w.heap.size w wx)=>BO.out d _ _ _ _ _ _ wx h hT)
      generalize boundB S d=bd at BO1 HD
      clear hx hb hc hT
      go_upto_region 6 with fail
      clear g0 g1 g2 g3 g4 g5
      have bn:=dbelow_new wr (.cells #[.int .i64 d.kind,.string d.name,.slice Af d.faces.length kf,.slice Ax d.fields.length kx,.slice Ap d.parts.length kp,.slice Am d.params.length km] 37)
      have B2:=Hd (BX.out.trans (bn.mono BX.out.size))
      have Y2:=Hd ((bn.block _ (Array.getElem?_eq_some_iff.1 YX.out).1).trans YX.out)
      have Z2:=Hd (heap_alloc_new wr (.cells #[.int .i64 d.kind,.string d.name,.slice Af d.faces.length kf,.slice Ax d.fields.length kx,.slice Ap d.parts.length kp,.slice Am d.params.length km] 37))
      generalize wr.alloc (.cells #[.int .i64 d.kind,.string d.name,.slice Af d.faces.length kf,.slice Ax d.fields.length kx,.slice Ap d.parts.length kp,.slice Am d.params.length km] 37)=w2 at B2 Y2 Z2 ⊢
      generalize wr.heap.size=gd at Z2 ⊢
      clear bn YX BX
      obtain ⟨z0,z1,z2⟩:=three_cells Y2.out
      obtain ⟨⟨v0,v1,v2,v3,v4,v5⟩,_⟩:=six_cells Z2.out
      cases ek:(d.kind == 1) with
      | false =>
        have HT:=Hd (HN.out (by rw [HD.out,ek];rfl))
        go_wp2_with fail
        go_roundg g
        case measure=>omega
        case rel=>exact ⟨q+1,by omega,by go_num,Blk.Aside.intro ⟨HT.out,Y2.out,B2.out⟩⟩
      | true =>
        rw [ek] at HD
        go_wp2_with fail
        refine (BO1.out _ B2.out).mono ?_
        rintro e w3 ⟨rfl,hb⟩
        have B3:=Hd (B2.out.trans (hb.mono B2.out.size))
        have Y3:=Hd ((hb.block _ (Array.getElem?_eq_some_iff.1 Y2.out).1).trans Y2.out)
        clear hb B2 Y2 Z2 z0 z1 z2 v0 v1 v2 v3 v4 v5 BO1
        cases bd with
        | false =>
          have HF:=Hd (HM.out (by rw [HD.out];rfl))
          go_wp2_with fail
          go_ret
          exact ⟨by rw [HQ.out,HF.out];rfl,B3.out⟩
        | true =>
          have HT:=Hd (HN.out (by rw [HD.out];rfl))
          go_wp2_with fail
          go_roundg g
          case measure=>omega
          case rel=>exact ⟨q+1,by omega,by go_num,Blk.Aside.intro ⟨HT.out,Y3.out,B3.out⟩⟩
theorem three_new (w:World) (o1 o2 o3:Obj):(((w.alloc o1).alloc o2).alloc o3).heap[w.heap.size]? = some o1∧(((w.alloc o1).alloc o2).alloc o3).heap[w.heap.size+1]? = some o2∧(((w.alloc o1).alloc o2).alloc o3).heap[w.heap.size+1+1]? = some o3:=by
 have e1:(w.alloc o1).heap.size=w.heap.size+1:=by simp
 have e2:((w.alloc o1).alloc o2).heap.size=w.heap.size+1+1:=by simp
 have n1:=heap_alloc_new w o1
 have n2:=heap_alloc_new (w.alloc o1) o2
 have n3:=heap_alloc_new ((w.alloc o1).alloc o2) o3
 rw [e1] at n2
 rw [e2] at n3
 refine ⟨?_,?_,n3⟩
 · exact (Below.heap_alloc _ _ _ (by omega)).trans ((Below.heap_alloc _ _ _ (by omega)).trans n1)
 · exact (Below.heap_alloc _ _ _ (by omega)).trans n2
theorem three_below (w:World) (o1 o2 o3:Obj):Below w.heap.size w (((w.alloc o1).alloc o2).alloc o3):=by
 have h1:=(Below.refl w.heap.size w).alloc (Nat.le_refl _) o1
 have h2:=h1.alloc h1.size o2
 exact h2.alloc h2.size o3
end Go.Proofs.YtaekdfcpbepepaaGreatDoor
