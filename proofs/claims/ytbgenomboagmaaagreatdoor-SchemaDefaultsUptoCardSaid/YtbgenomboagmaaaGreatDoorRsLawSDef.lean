/- The walk of the law SchemaDefaults. (gen_defaults.py wrote it.) -/
import Derived.Test.YtbgenomboagmaaaGreatDoorQs47
set_option maxRecDepth 100000
set_option maxHeartbeats 8000000
namespace Go.Proofs.YtbgenomboagmaaaGreatDoor.LSDef
open Go.RowKit
def QC (wz:World) (cs:List (Nat × Nat × Value)) (W:World):Prop:=(∀ p,p ∈ cs→W.cell? ⟨p.1,p.2.1,none⟩=some p.2.2)∧Below wz.heap.size wz W
theorem QC.next {wz W W':World} {cs:List (Nat × Nat × Value)} (h:QC wz cs W) (hl:∀ p,p ∈ cs→p.1 < wz.heap.size) (hb:Below W.heap.size W W'):QC wz cs W':=
 ⟨fun p hp=>(hb.cell (p:=⟨p.1,p.2.1,none⟩) (Nat.lt_of_lt_of_le (hl p hp) h.2.size)).trans (h.1 p hp),h.2.trans (hb.mono h.2.size)⟩
theorem q_written {wz W:World} {a1 b1 a2 b2 a3 b3 a4 b4 a5 b5 a6 b6 a7 b7 a8 b8 a9 b9 a10 b10 a11 b11 a12 b12:Nat} {v1 v2 v3 v4 v5 v6 v7 v8 v9 v10 v11 v12:Value} (h:QC wz [(a1,b1,v1),(a2,b2,v2),(a3,b3,v3),(a4,b4,v4),(a5,b5,v5),(a6,b6,v6),(a7,b7,v7),(a8,b8,v8),(a9,b9,v9),(a10,b10,v10),(a11,b11,v11),(a12,b12,v12)] W) :
  W.cell? ⟨a1,b1,none⟩=some v1∧W.cell? ⟨a2,b2,none⟩=some v2∧W.cell? ⟨a3,b3,none⟩=some v3∧W.cell? ⟨a4,b4,none⟩=some v4∧W.cell? ⟨a5,b5,none⟩=some v5∧W.cell? ⟨a6,b6,none⟩=some v6∧W.cell? ⟨a7,b7,none⟩=some v7∧W.cell? ⟨a8,b8,none⟩=some v8∧W.cell? ⟨a9,b9,none⟩=some v9∧W.cell? ⟨a10,b10,none⟩=some v10∧W.cell? ⟨a11,b11,none⟩=some v11∧W.cell? ⟨a12,b12,none⟩=some v12∧QC wz [(a1,b1,v1),(a2,b2,v2),(a3,b3,v3),(a4,b4,v4),(a5,b5,v5),(a6,b6,v6),(a7,b7,v7),(a8,b8,v8),(a9,b9,v9),(a10,b10,v10),(a11,b11,v11),(a12,b12,v12)] W:=
 ⟨h.1 (a1,b1,v1) (by simp),h.1 (a2,b2,v2) (by simp),h.1 (a3,b3,v3) (by simp),h.1 (a4,b4,v4) (by simp),h.1 (a5,b5,v5) (by simp),h.1 (a6,b6,v6) (by simp),h.1 (a7,b7,v7) (by simp),h.1 (a8,b8,v8) (by simp),h.1 (a9,b9,v9) (by simp),h.1 (a10,b10,v10) (by simp),h.1 (a11,b11,v11) (by simp),h.1 (a12,b12,v12) (by simp),h⟩
theorem q_held {wz W:World} {cs:List (Nat × Nat × Value)} {p1 p2 p3 p4 p5 p6 p7 p8 p9 p10 p11 p12:Prop} (h:p1∧p2∧p3∧p4∧p5∧p6∧p7∧p8∧p9∧p10∧p11∧p12∧QC wz cs W):Below wz.heap.size wz W:=h.2.2.2.2.2.2.2.2.2.2.2.2.2
theorem q_last {wz W:World} {cs:List (Nat × Nat × Value)} {p1 p2 p3 p4 p5 p6 p7 p8 p9 p10 p11 p12:Prop} (h:p1∧p2∧p3∧p4∧p5∧p6∧p7∧p8∧p9∧p10∧p11∧p12∧QC wz cs W):QC wz cs W:=h.2.2.2.2.2.2.2.2.2.2.2.2
structure SK (w:World) (cs:Array Value) (W:World):Prop where
 low:Below w.heap.size w W
 box:W.heap[w.heap.size]? = some (.cells cs 24 (0,0))
theorem SK.next {w W W':World} {cs:Array Value} (h:SK w cs W) (hb:Below W.heap.size W W'):SK w cs W':=
 ⟨h.low.trans (hb.mono h.low.size),(hb.block _ (Array.getElem?_eq_some_iff.1 h.box).1).trans h.box⟩
theorem SK.lt {w W:World} {cs:Array Value} (h:SK w cs W):w.heap.size < W.heap.size:=(Array.getElem?_eq_some_iff.1 h.box).1
def parsD (d:DefnT) (q:Nat):List VarT:=d.params++(d.fields.take q).flatMap fun f=>f.params
theorem pars_zero (d:DefnT):parsD d 0=d.params:=by unfold parsD;simp
theorem pars_next {d:DefnT} {q:Nat} {f:FieldT} (h:d.fields[q]? = some f):parsD d (q+1)=parsD d q++f.params:=by
 unfold parsD
 rw [List.take_add_one,h,List.flatMap_append]
 simp
theorem fld_len (l:List FieldT):(l.flatMap fun f=>f.params).length≤(l.map fldN).sum:=by
 induction l with
 | nil=>exact Nat.zero_le _
 | cons f t ih =>
   rw [List.flatMap_cons,List.length_append,List.map_cons,List.sum_cons]
   have h1:=par_len f.params
   have h2:parN f.params≤fldN f:=by unfold fldN;omega
   omega
theorem pars_len {d:DefnT} (h:defN d≤4000) (q:Nat):(parsD d q).length≤4000:=by
 have h1:=fld_len (d.fields.take q)
 have h2:=sum_upto fldN d.fields q
 have h3:=par_len d.params
 unfold parsD
 rw [List.length_append]
 unfold defN at h
 omega
theorem pars_mem {S:SchT} {d:DefnT} (hd:d ∈ S.defs) {q:Nat} {p:VarT} (hp:p ∈ parsD d q):p ∈ allPm S.defs:=by
 unfold allPm
 rcases List.mem_append.1 hp with hp|hp
 · exact List.mem_append_right _ (List.mem_flatMap.2 ⟨d,hd,hp⟩)
 · obtain ⟨f,hf,hpf⟩:=List.mem_flatMap.1 hp
   exact List.mem_append_left _ (List.mem_flatMap.2 ⟨f,List.mem_flatMap.2 ⟨d,hd,List.mem_of_mem_take hf⟩,hpf⟩)
theorem walk (w : World) (S:SchT) (c0 c1 c2:Value) (hw:Laid5 w) (hz:SlimS S) (hlg:ligN S≤1048576) (hS:TS w (fun b=>b < w.heap.size) (encSch S) [c0,c1,c2]) :
   Calls Tryz.prog 7 #[.agg #[c0,c1,c2]] w fun e w'=>e=.returned (.bool true)∧Below w.heap.size w w':=by
 obtain ⟨A,k,e,hl,hR⟩:=sch_cells hS
 injection e with e0 e
 injection e with e1 e
 injection e with e2 e
 subst e0 e1 e2
 have TSX:=fun (wx:World) (h:Below w.heap.size w wx)=>Hd (show TS wx (fun b=>b < w.heap.size) (encSch S) [.slice A S.defs.length k,.string S.query,.string S.mutation] from TS.low h hS)
 have LG:=Hd (fun (wx:World) (h:Below w.heap.size w wx)=>lightN_any S _ _ _ wx w.heap.size h.size (TSX wx h).out hlg)
 have CK:=Hd (fun (ok:OkS S) (wx:World) (h:Below w.heap.size w wx)=>check_all S ok _ _ _ wx w.heap.size h.size (TSX wx h).out (hw.below h))
 have AW:=Hd (fun (wx:World) (h:Below w.heap.size w wx)=>exwake_any wx (hw.below h))
 have EN0:=Hd (fun (n:ByteArray) (hn:n.size≤9223372036854775807) (wx:World) (h:Below w.heap.size w wx)=>entry_any S n _ _ _ wx w.heap.size h.size hn (TSX wx h).out)
 have RI0:=Hd (fun (p:VarT) (hp:sizeV p.v≤9000) (hn:p.tn.size≤9223372036854775807) (E3 E4:Option Addr) (j3 j4:Nat) (wx:World) (h:Below w.heap.size w wx) (hV:TS wx (fun b=>b < wx.heap.size) (encV p.v) [.int .i64 p.v.kd,.int .i64 p.v.nn,.string p.v.ss,.slice E3 p.v.ls.len j3,.slice E4 p.v.ms.len j4])=>right_gen S p.tn p.tl p.tm p.v _ _ _ E3 E4 j3 j4 wx wx.heap.size (Nat.le_refl _) (hw.below h) hz (Nat.le_trans hp (by decide)) hn (TS.keep (fun b hx=>⟨Nat.lt_of_lt_of_le hx h.size,rfl⟩) _ _ (TSX wx h).out) hV)
 have HOK:=Hd (fun (h:ligN S≤4000)=>okS_of h hz)
 have HR:=Hd (fun (wx:World) (h:Below w.heap.size w wx)=>RowT.below h hR)
 have K1:SK w #[.slice A S.defs.length k,.string S.query,.string S.mutation] (w.alloc (.cells #[.slice A S.defs.length k,.string S.query,.string S.mutation] 24)):=⟨dbelow_new _ _,heap_alloc_new _ _⟩
 have HK1:=Hd K1
 clear hw hz hlg hS hR e TSX K1
 obtain ⟨i0,z,hi,hz0,hz1,hz2,hz3⟩:=cinfo_par
 go_enter Tryz.func7,Tryz.ntmps7
 go_upto_region 1 with fail
 generalize w.alloc (.cells #[.slice A S.defs.length k,.string S.query,.string S.mutation] 24)=w1 at HK1 ⊢
 obtain ⟨z0,z1,z2⟩:=three_cells HK1.out.box
 obtain ⟨lb,hlb⟩:∃ b,decide (((ligN S:Nat):Int)≤4000)=b:=⟨_,rfl⟩
 have LB:=Hd hlb
 rw [hlb] at LG
 clear hlb
 cases lb with
 | false =>
   go_wp2_with fail
   refine (LG.out _ HK1.out.low).mono ?_
   rintro e w2 ⟨rfl,hb⟩
   have K2:=Hd (HK1.out.next hb)
   clear hb
   go_wp2_with fail
   refine (AW.out _ K2.out.low).mono ?_
   rintro e w3 ⟨rfl,hb⟩
   have K3:=Hd (K2.out.next hb)
   clear hb
   go_wp2_with fail
   go_ret
   exact ⟨rfl,K3.out.low⟩
 | true =>
   have HOK1:=Hd (HOK.out (by have:=of_decide_eq_true LB.out;omega))
   have H4:Hid (ligN S≤4000):=Hd (by have:=of_decide_eq_true LB.out;omega)
   go_wp2_with fail
   refine (LG.out _ HK1.out.low).mono ?_
   rintro e w2 ⟨rfl,hb⟩
   have K2:=Hd (HK1.out.next hb)
   clear hb z0 z1 z2 LG
   obtain ⟨z0,z1,z2⟩:=three_cells K2.out.box
   have CK1:=Hd (CK.out HOK1.out)
   have HZK:=Hd (fun (h:checkS S=0)=>check_zero h)
   clear CK
   obtain ⟨kz,hkz⟩:∃ x,checkS S=x:=⟨_,rfl⟩
   rw [hkz] at CK1 HZK
   clear hkz
   cases e0:(kz == 0) with
   | false =>
     go_wp2_with fail
     refine (CK1.out _ K2.out.low).mono ?_
     rintro e w3 ⟨rfl,hb⟩
     have K3:=Hd (K2.out.next hb)
     clear hb
     go_wp2_with fail
     refine (AW.out _ K3.out.low).mono ?_
     rintro e w4 ⟨rfl,hb⟩
     have K4:=Hd (K3.out.next hb)
     clear hb
     go_wp2_with fail
     go_ret
     exact ⟨rfl,K4.out.low⟩
   | true =>
     have e1:kz=0:=eq_of_beq e0
     subst e1
     have R4:Hid (rule4B S=true):=Hd (HZK.out rfl).2.2.2.1
     have R9:Hid (rule9B S=true):=Hd (HZK.out rfl).2.2.2.2.2.2.2.2
     clear HZK e0
     have HPE:Hid (∀ p,p ∈ allPm S.defs→entryD S.defs p.tn=true):=Hd (fun p hp=>List.all_eq_true.1 (Bool.and_eq_true _ _ ▸ R4.out:_∧_).2 p hp)
     have HPR:Hid (∀ p,p ∈ allPm S.defs→(!p.has || rightL S.defs ⟨p.tn,p.tl,p.tm,false,p.v⟩)=true):=Hd (fun p hp=>List.all_eq_true.1 (Bool.and_eq_true _ _ ▸ R9.out:_∧_).1 p hp)
     have HPZ:=Hd (mod_all HOK1.out.mod)
     clear R4 R9
     go_wp2_with fail
     refine (CK1.out _ K2.out.low).mono ?_
     rintro e w3 ⟨rfl,hb⟩
     have K3:=Hd (K2.out.next hb)
     clear hb CK1 K2 HK1 z0 z1 z2
     go_wp2_with fail
     go_loopg [3,4,5,6] S.defs.length (fun g i l kk j wx=>∃ q:Nat,q+g=S.defs.length∧i=.int .i64 q∧SK w #[.slice A S.defs.length k,.string S.query,.string S.mutation] wx)
     case atStart=>exact ⟨0,by omega,rfl,K3.out⟩
     case round =>
      obtain ⟨q,hq,rfl,hb⟩:=hrel
      have KR:=Hd hb
      clear hb
      obtain ⟨z0,z1,z2⟩:=three_cells KR.out.box
      cases gk with
      | zero =>
        obtain rfl:q=S.defs.length:=by omega
        go_wp2_with fail
        refine (AW.out _ KR.out.low).mono ?_
        rintro e w4 ⟨rfl,hb⟩
        have K4:=Hd (KR.out.next hb)
        clear hb
        go_wp2_with fail
        go_ret
        exact ⟨rfl,K4.out.low⟩
      | succ g1 =>
        have hqn:q < S.defs.length:=by omega
        have hqn':(q:Int) < (S.defs.length:Int):=by omega
        obtain ⟨d,hd⟩:∃ x,S.defs[q]? = some x:=⟨_,List.getElem?_eq_getElem hqn⟩
        have HD:=Hd (List.mem_of_getElem? hd)
        have HDN:Hid (defN d≤4000):=Hd (Nat.le_trans (sum_part (f:=defN) HD.out) H4.out)
        obtain ⟨bd,pd,d0,d1,d2,d3,d4,d5,rfl,hlt,⟨y0,y1,y2,y3,y4,y5⟩,hT⟩:=defn_at (HR.out _ KR.out.low) hd
        obtain ⟨Af,kf,Ax,kx,Ap,kp,Am,km,e,_,⟨lf,hf⟩,⟨lx,hx⟩,⟨lp,hp⟩,lm,hm⟩:=defn_cells hT
        simp only [List.cons.injEq,and_true] at e
        obtain ⟨rfl,rfl,rfl,rfl,rfl,rfl⟩:=e
        obtain ⟨news,hn1,hn2⟩:=row_cellsA hm
        have hnl:news.length=d.params.length*10:=tlv_len len_par hn1
        have hno:∀ u,u ∈ news→u.oneCell'=true:=tlv_one one_par hn1
        have hpl:=pars_len HDN.out 0
        rw [pars_zero] at hpl
        have HM:=Hd hn1
        have HFX:=Hd hx
        have O0:=Hd (World.ownsRow_nil wr wr.heap.size 56 10)
        have BD:=Hd (Nat.lt_of_lt_of_le hlt KR.out.low.size)
        have Y3:=Hd y3
        clear hT hd hf hp hm lf lp lm y0 y1 y2 y4 hn1 hx
        go_wp2_with (at_builtin;refine wpList_app_row rfl _ _ 35 rfl wr.heap.size 56 i0 z 10 136 Tryz.underlying35 hi hz0 hz1 hz2 hz3 (by decide) _ 0 [] rfl O0.out Am d.params.length km news rfl hnl hn2 hno (by unfold maxLen;omega) (by omega) (Nat.le_refl _) ?_;intro V4 w4 hown hgrow;have HG4:=Hd hgrow;have HO4:=Hd hown;clear hown hgrow)
        have B4:=below_grown (B:=wr.heap.size) (Below.refl _ _) HG4.out (Nat.le_refl _) (fun b hb=>by have e:none=some b:=hb;cases e)
        have P4:ParsO w.heap.size wr.heap.size w4 V4 (parsD d 0):=⟨_,by have h:=HO4.out;rw [Nat.zero_add] at h;rw [pars_zero];exact h,by rw [pars_zero];exact TLV.keep (fun b hx=>⟨hx,B4.block b (Nat.lt_of_lt_of_le hx KR.out.low.size)⟩) HM.out⟩
        have HP4:=Hd P4
        have HB4:=Hd B4
        clear P4 B4 HO4 HG4 O0 hn2 hnl hno HM hpl y5 z0 z1 z2
        go_wp2_with fail
        obtain ⟨w5,hw5⟩:∃ x,x=wr:=⟨_,rfl⟩
        subst hw5
        go_loopg [4,5] d.fields.length (fun g l kk wx=>∃ q2:Nat,q2+g=d.fields.length∧kk=.int .i64 q2∧Below w5.heap.size w5 wx∧ParsO w.heap.size w5.heap.size wx l (parsD d q2))
        case atStart=>exact ⟨0,by omega,rfl,HB4.out,HP4.out⟩
        case round =>
         obtain ⟨q2,hq2,rfl,hb2,hp2⟩:=hrel
         have HB2:=Hd hb2
         have HP2:=Hd hp2
         have KN:=Hd (KR.out.next hb2)
         clear hb2 hp2 HB4 HP4
         obtain ⟨z0,z1,z2⟩:=three_cells KN.out.box
         have y3:=(HB2.out.cell (p:=⟨bd,pd+q*6+3,none⟩) BD.out).trans Y3.out
         cases gk with
         | zero =>
           obtain rfl:q2=d.fields.length:=by omega
           obtain ⟨A4,c4,rfl,hrow⟩:=HP2.out.row KN.out.low.size
           have HROW:=Hd hrow
           have hl4:=pars_len HDN.out d.fields.length
           have HMEM:Hid (∀ p,p ∈ parsD d d.fields.length→p ∈ allPm S.defs):=Hd (fun p hp=>pars_mem HD.out hp)
           clear hrow HP2
           generalize parsD d d.fields.length=PS at HROW hl4 HMEM ⊢
           go_wp2_with fail
           clear z0 z1 z2 y3
           obtain ⟨w6,hw6⟩:∃ x,x=wr:=⟨_,rfl⟩
           subst hw6
           go_loopg [6] PS.length (fun g j wx=>∃ q3:Nat,q3+g=PS.length∧j=.int .i64 q3∧SK w #[.slice (some ⟨bd,pd,none⟩) S.defs.length k,.string S.query,.string S.mutation] wx∧Below w6.heap.size w6 wx)
           case atStart=>exact ⟨0,by omega,rfl,KN.out,Below.refl _ _⟩
           case round =>
            obtain ⟨q3,hq3,rfl,hkw,hl3⟩:=hrel
            have KW:=Hd hkw
            have L4:=Hd hl3
            clear hkw hl3
            cases gk with
            | zero =>
              obtain rfl:q3=PS.length:=by omega
              go_wp2_with fail
              go_roundg g1
              case measure=>omega
              case rel=>exact ⟨q+1,by omega,by go_num,KW.out⟩
            | succ g3 =>
              have hq3n:q3 < PS.length:=by omega
              have hq3n':(q3:Int) < (PS.length:Int):=by omega
              obtain ⟨p,hp⟩:∃ x,PS[q3]? = some x:=⟨_,List.getElem?_eq_getElem hq3n⟩
              have hpm:=HMEM.out p (List.mem_of_getElem? hp)
              obtain ⟨bp,p0,cs,rfl,hltp,hcp,hTp⟩:=rowOf_at 10 len_par (RowT.below L4.out HROW.out) hp
              obtain ⟨E3,j3,E4,j4,rfl,hsz1,hsz2⟩:=var_cells hTp
              obtain ⟨z0,z1,z2⟩:=three_cells KW.out.box
              have f1:wr.cell? ⟨bp,p0+q3*10+1,none⟩=_:=hcp 1 _ rfl
              have f2:wr.cell? ⟨bp,p0+q3*10+1+1,none⟩=_:=hcp 2 _ rfl
              have f3:wr.cell? ⟨bp,p0+q3*10+1+2,none⟩=_:=hcp 3 _ rfl
              have f4:wr.cell? ⟨bp,p0+q3*10+4,none⟩=_:=hcp 4 _ rfl
              have f5:wr.cell? ⟨bp,p0+q3*10+5,none⟩=_:=hcp 5 _ rfl
              have f6:wr.cell? ⟨bp,p0+q3*10+5+1,none⟩=_:=hcp 6 _ rfl
              have f7:wr.cell? ⟨bp,p0+q3*10+5+2,none⟩=_:=hcp 7 _ rfl
              have f8:wr.cell? ⟨bp,p0+q3*10+5+3,none⟩=_:=hcp 8 _ rfl
              have f9:wr.cell? ⟨bp,p0+q3*10+5+4,none⟩=_:=hcp 9 _ rfl
              have HG:=Hd KW.out.lt
              have HBP:=Hd (Nat.lt_of_lt_of_le hltp L4.out.size)
              have EN:=fun (wx:World) (h:Below wr.heap.size wr wx)=>EN0.out p.tn hsz2 wx (KW.out.low.trans (h.mono KW.out.low.size))
              rw [HPE.out p hpm] at EN
              have RI:=fun (wx:World) (h:Below wr.heap.size wr wx)=>RI0.out p (HPZ.out p hpm) hsz2 E3 E4 j3 j4 wx (KW.out.low.trans (h.mono KW.out.low.size)) (TS.keep (fun b hb=>⟨Nat.lt_of_lt_of_le hb (Nat.le_trans L4.out.size h.size),h.block b (Nat.lt_of_lt_of_le hb L4.out.size)⟩) _ _ (var_val hTp))
              have PR:=HPR.out p hpm
              clear hTp hcp hp hpm hltp hsz1 hsz2
              go_upto_region 14 with fail
              cases hh:p.has with
              | false =>
                rw [hh] at f4
                clear RI PR
                have hE:QC wr [(w.heap.size,0,(Value.slice (some ⟨bd,pd,none⟩) S.defs.length k)),(w.heap.size,1,(Value.string S.query)),(w.heap.size,2,(Value.string S.mutation)),(bp,p0+q3*10+1,(Value.string p.tn)),(bp,p0+q3*10+1+1,(Value.int .i64 p.tl)),(bp,p0+q3*10+1+2,(Value.int .i64 p.tm)),(bp,p0+q3*10+4,(Value.bool false)),(bp,p0+q3*10+5,(Value.int .i64 p.v.kd)),(bp,p0+q3*10+5+1,(Value.int .i64 p.v.nn)),(bp,p0+q3*10+5+2,(Value.string p.v.ss)),(bp,p0+q3*10+5+3,(Value.slice E3 p.v.ls.len j3)),(bp,p0+q3*10+5+4,(Value.slice E4 p.v.ms.len j4))] wr:=⟨fun cc hcc=>by
                  simp only [List.mem_cons,List.not_mem_nil,or_false] at hcc
                  rcases hcc with rfl|rfl|rfl|rfl|rfl|rfl|rfl|rfl|rfl|rfl|rfl|rfl<;>assumption,Below.refl _ _⟩
                have HL:Hid (∀ c,c ∈ [(w.heap.size,0,(Value.slice (some ⟨bd,pd,none⟩) S.defs.length k)),(w.heap.size,1,(Value.string S.query)),(w.heap.size,2,(Value.string S.mutation)),(bp,p0+q3*10+1,(Value.string p.tn)),(bp,p0+q3*10+1+1,(Value.int .i64 p.tl)),(bp,p0+q3*10+1+2,(Value.int .i64 p.tm)),(bp,p0+q3*10+4,(Value.bool false)),(bp,p0+q3*10+5,(Value.int .i64 p.v.kd)),(bp,p0+q3*10+5+1,(Value.int .i64 p.v.nn)),(bp,p0+q3*10+5+2,(Value.string p.v.ss)),(bp,p0+q3*10+5+3,(Value.slice E3 p.v.ls.len j3)),(bp,p0+q3*10+5+4,(Value.slice E4 p.v.ms.len j4))]→c.1 < wr.heap.size):=Hd (fun cc hcc=>by
                  have l0:=HG.out
                  have l1:=HBP.out
                  simp only [List.mem_cons,List.not_mem_nil,or_false] at hcc
                  rcases hcc with rfl|rfl|rfl|rfl|rfl|rfl|rfl|rfl|rfl|rfl|rfl|rfl<;>assumption)
                refine wp_region_held_drew (S:=(fun w'=>w'.cell? ⟨w.heap.size,0,none⟩=some (Value.slice (some ⟨bd,pd,none⟩) S.defs.length k)∧w'.cell? ⟨w.heap.size,1,none⟩=some (Value.string S.query)∧w'.cell? ⟨w.heap.size,2,none⟩=some (Value.string S.mutation)∧w'.cell? ⟨bp,p0+q3*10+1,none⟩=some (Value.string p.tn)∧w'.cell? ⟨bp,p0+q3*10+1+1,none⟩=some (Value.int .i64 p.tl)∧w'.cell? ⟨bp,p0+q3*10+1+2,none⟩=some (Value.int .i64 p.tm)∧w'.cell? ⟨bp,p0+q3*10+4,none⟩=some (Value.bool false)∧w'.cell? ⟨bp,p0+q3*10+5,none⟩=some (Value.int .i64 p.v.kd)∧w'.cell? ⟨bp,p0+q3*10+5+1,none⟩=some (Value.int .i64 p.v.nn)∧w'.cell? ⟨bp,p0+q3*10+5+2,none⟩=some (Value.string p.v.ss)∧w'.cell? ⟨bp,p0+q3*10+5+3,none⟩=some (Value.slice E3 p.v.ls.len j3)∧w'.cell? ⟨bp,p0+q3*10+5+4,none⟩=some (Value.slice E4 p.v.ms.len j4)∧QC wr [(w.heap.size,0,(Value.slice (some ⟨bd,pd,none⟩) S.defs.length k)),(w.heap.size,1,(Value.string S.query)),(w.heap.size,2,(Value.string S.mutation)),(bp,p0+q3*10+1,(Value.string p.tn)),(bp,p0+q3*10+1+1,(Value.int .i64 p.tl)),(bp,p0+q3*10+1+2,(Value.int .i64 p.tm)),(bp,p0+q3*10+4,(Value.bool false)),(bp,p0+q3*10+5,(Value.int .i64 p.v.kd)),(bp,p0+q3*10+5+1,(Value.int .i64 p.v.nn)),(bp,p0+q3*10+5+2,(Value.string p.v.ss)),(bp,p0+q3*10+5+3,(Value.slice E3 p.v.ls.len j3)),(bp,p0+q3*10+5+4,(Value.slice E4 p.v.ms.len j4))] w')) (by kernel_rfl) (q_written (hE.next HL.out (Below.drew (Below.refl _ _)))) (fun hHeld=>?_)
                refine wpAnyH_take (i:=0) (oi:=_) (v:=?_) rfl (by kernel_rfl) (by kernel_rfl) (by kernel_rfl) (fun _ _ _ h=>h) (Or.inl ⟨by rfl,?_⟩) (by assumption) ?_
                rotate_left
                · (intro w hSw;(try dsimp only at hSw);go_simp;try with_reducible rfl)
                try simp only [Act.put,List.getElem_toArray,List.getElem_cons_zero,List.setIfInBounds_toArray,List.set_cons_zero,List.set_cons_succ]
                refine wpAnyH_take (i:=1) (oi:=_) (v:=?_) rfl (by kernel_rfl) (by kernel_rfl) (by kernel_rfl) (fun _ _ _ h=>h) (Or.inl ⟨by rfl,?_⟩) (by assumption) ?_
                rotate_left
                · (intro w hSw;(try dsimp only at hSw);go_simp;try with_reducible rfl)
                try simp only [Act.put,List.getElem_toArray,List.getElem_cons_zero,List.getElem_cons_succ,List.setIfInBounds_toArray,List.set_cons_zero,List.set_cons_succ]
                refine wpAnyH_take (i:=2) (oi:=_) (v:=?_) rfl (by kernel_rfl) (by kernel_rfl) (by kernel_rfl) (fun _ _ _ h=>h) (Or.inl ⟨by rfl,?_⟩) (by assumption) ?_
                rotate_left
                · (intro w hSw;(try dsimp only at hSw);go_simp;try with_reducible rfl)
                try simp only [Act.put,List.getElem_toArray,List.getElem_cons_zero,List.getElem_cons_succ,List.setIfInBounds_toArray,List.set_cons_zero,List.set_cons_succ]
                refine wpAnyH_take (i:=3) (oi:=_) (v:=?_) rfl (by kernel_rfl) (by kernel_rfl) (by kernel_rfl) (fun _ _ _ h=>h) (Or.inl ⟨by rfl,?_⟩) (by assumption) ?_
                rotate_left
                · (intro w hSw;(try dsimp only at hSw);go_simp;try with_reducible rfl)
                try simp only [Act.put,List.getElem_toArray,List.getElem_cons_zero,List.getElem_cons_succ,List.setIfInBounds_toArray,List.set_cons_zero,List.set_cons_succ]
                refine wpAnyH_take (i:=4) (oi:=_) (v:=?_) rfl (by kernel_rfl) (by kernel_rfl) (by kernel_rfl) (fun _ _ _ h=>h) (Or.inl ⟨by rfl,?_⟩) (by assumption) ?_
                rotate_left
                · (intro w hSw;(try dsimp only at hSw);go_simp;try with_reducible rfl)
                try simp only [Act.put,List.getElem_toArray,List.getElem_cons_zero,List.getElem_cons_succ,List.setIfInBounds_toArray,List.set_cons_zero,List.set_cons_succ]
                refine wpAnyH_take (i:=5) (oi:=_) (v:=?_) rfl (by kernel_rfl) (by kernel_rfl) (by kernel_rfl) (fun _ _ _ h=>h) (Or.inl ⟨by rfl,?_⟩) (by assumption) ?_
                rotate_left
                · (intro w hSw;(try dsimp only at hSw);go_simp;try with_reducible rfl)
                try simp only [Act.put,List.getElem_toArray,List.getElem_cons_zero,List.getElem_cons_succ,List.setIfInBounds_toArray,List.set_cons_zero,List.set_cons_succ]
                refine wpAnyH_take (i:=6) (oi:=_) (v:=?_) rfl (by kernel_rfl) (by kernel_rfl) (by kernel_rfl) (fun _ _ _ h=>h) (Or.inl ⟨by rfl,?_⟩) (by assumption) ?_
                rotate_left
                · (intro w hSw;(try dsimp only at hSw);go_simp;try with_reducible rfl)
                try simp only [Act.put,List.getElem_toArray,List.getElem_cons_zero,List.getElem_cons_succ,List.setIfInBounds_toArray,List.set_cons_zero,List.set_cons_succ]
                refine wpAnyH_ready (rs:=[7]) (by kernel_rfl) (by simp) ?_
                refine AllReadyH.cons (o:=_) rfl (fun K hK=>?_) AllReadyH.nil
                go_simp
                refine (EN _ (q_held (by assumption))).mono ?_
                rintro e w' ⟨rfl,hb⟩
                go_wp2_with fail
                refine hK.out _ _ (q_written (QC.next (q_last (by assumption)) HL.out (by assumption))) (fun hHeld=>?_)
                clear hK K hb
                try simp only [Act.put,List.getElem_toArray,List.getElem_cons_zero,List.getElem_cons_succ,List.setIfInBounds_toArray,List.set_cons_zero,List.set_cons_succ]
                refine wpAnyH_take (i:=8) (oi:=_) (v:=?_) rfl (by kernel_rfl) (by kernel_rfl) (by kernel_rfl) (fun _ _ _ h=>h) (Or.inl ⟨by rfl,?_⟩) (by assumption) ?_
                rotate_left
                · (intro w hSw;(try dsimp only at hSw);go_simp;try with_reducible rfl)
                try simp only [Act.put,List.getElem_toArray,List.getElem_cons_zero,List.getElem_cons_succ,List.setIfInBounds_toArray,List.set_cons_zero,List.set_cons_succ]
                refine wpAnyH_take (i:=9) (oi:=_) (v:=?_) rfl (by kernel_rfl) (by kernel_rfl) (by kernel_rfl) (fun _ _ _ h=>h) (Or.inl ⟨by rfl,?_⟩) (by assumption) ?_
                rotate_left
                · (intro w hSw;(try dsimp only at hSw);go_simp;try with_reducible rfl)
                try simp only [Act.put,List.getElem_toArray,List.getElem_cons_zero,List.getElem_cons_succ,List.setIfInBounds_toArray,List.set_cons_zero,List.set_cons_succ]
                refine wpAnyH_take (i:=10) (oi:=_) (v:=?_) rfl (by kernel_rfl) (by kernel_rfl) (by kernel_rfl) (fun _ _ _ h=>h) (Or.inl ⟨by rfl,?_⟩) (by assumption) ?_
                rotate_left
                · (intro w hSw;(try dsimp only at hSw);go_simp;try with_reducible rfl)
                try simp only [Act.put,List.getElem_toArray,List.getElem_cons_zero,List.getElem_cons_succ,List.setIfInBounds_toArray,List.set_cons_zero,List.set_cons_succ]
                refine wpAnyH_take (i:=11) (oi:=_) (v:=?_) rfl (by kernel_rfl) (by kernel_rfl) (by kernel_rfl) (fun _ _ _ h=>h) (Or.inl ⟨by rfl,?_⟩) (by assumption) ?_
                rotate_left
                · (intro w hSw;(try dsimp only at hSw);go_simp;try with_reducible rfl)
                try simp only [Act.put,List.getElem_toArray,List.getElem_cons_zero,List.getElem_cons_succ,List.setIfInBounds_toArray,List.set_cons_zero,List.set_cons_succ]
                refine wpAnyH_take (i:=12) (oi:=_) (v:=?_) rfl (by kernel_rfl) (by kernel_rfl) (by kernel_rfl) (fun _ _ _ h=>h) (Or.inl ⟨by rfl,?_⟩) (by assumption) ?_
                rotate_left
                · (intro w hSw;(try dsimp only at hSw);go_simp;try with_reducible rfl)
                try simp only [Act.put,List.getElem_toArray,List.getElem_cons_zero,List.getElem_cons_succ,List.setIfInBounds_toArray,List.set_cons_zero,List.set_cons_succ]
                refine wpAnyH_take (i:=13) (oi:=_) (v:=?_) rfl (by kernel_rfl) (by kernel_rfl) (by kernel_rfl) (fun _ _ _ h=>h) (Or.inl ⟨by rfl,?_⟩) (by assumption) ?_
                rotate_left
                · (intro w hSw;(try dsimp only at hSw);go_simp;try with_reducible rfl)
                try simp only [Act.put,List.getElem_toArray,List.getElem_cons_zero,List.getElem_cons_succ,List.setIfInBounds_toArray,List.set_cons_zero,List.set_cons_succ]
                refine wpAnyH_take (i:=14) (oi:=_) (v:=?_) rfl (by kernel_rfl) (by kernel_rfl) (by kernel_rfl) (fun _ _ _ h=>h) (Or.inl ⟨by rfl,?_⟩) (by assumption) ?_
                rotate_left
                · (intro w hSw;(try dsimp only at hSw);go_simp;try with_reducible rfl)
                try simp only [Act.put,List.getElem_toArray,List.getElem_cons_zero,List.getElem_cons_succ,List.setIfInBounds_toArray,List.set_cons_zero,List.set_cons_succ]
                refine wpAnyH_take (i:=15) (oi:=_) (v:=?_) rfl (by kernel_rfl) (by kernel_rfl) (by kernel_rfl) (fun _ _ _ h=>h) (Or.inl ⟨by rfl,?_⟩) (by assumption) ?_
                rotate_left
                · (intro w hSw;(try dsimp only at hSw);go_simp;try with_reducible rfl)
                try simp only [Act.put,List.getElem_toArray,List.getElem_cons_zero,List.getElem_cons_succ,List.setIfInBounds_toArray,List.set_cons_zero,List.set_cons_succ]
                refine wpAnyH_take (i:=16) (oi:=_) (v:=undef) rfl (by kernel_rfl) (by kernel_rfl) (by kernel_rfl) (fun _ _ _ h=>h) (Or.inr ⟨by rfl,rfl⟩) (by assumption) ?_
                try simp only [Act.put,List.getElem_toArray,List.getElem_cons_zero,List.getElem_cons_succ,List.setIfInBounds_toArray,List.set_cons_zero,List.set_cons_succ]
                refine wpAnyH_take (i:=17) (oi:=_) (v:=undef) rfl (by kernel_rfl) (by kernel_rfl) (by kernel_rfl) (fun _ _ _ h=>h) (Or.inr ⟨by rfl,rfl⟩) (by assumption) ?_
                try simp only [Act.put,List.getElem_toArray,List.getElem_cons_zero,List.getElem_cons_succ,List.setIfInBounds_toArray,List.set_cons_zero,List.set_cons_succ]
                refine wpAnyH_take (i:=18) (oi:=_) (v:=undef) rfl (by kernel_rfl) (by kernel_rfl) (by kernel_rfl) (fun _ _ _ h=>h) (Or.inr ⟨by rfl,rfl⟩) (by assumption) ?_
                try simp only [Act.put,List.getElem_toArray,List.getElem_cons_zero,List.getElem_cons_succ,List.setIfInBounds_toArray,List.set_cons_zero,List.set_cons_succ]
                refine wpAnyH_take (i:=19) (oi:=_) (v:=undef) rfl (by kernel_rfl) (by kernel_rfl) (by kernel_rfl) (fun _ _ _ h=>h) (Or.inr ⟨by rfl,rfl⟩) (by assumption) ?_
                try simp only [Act.put,List.getElem_toArray,List.getElem_cons_zero,List.getElem_cons_succ,List.setIfInBounds_toArray,List.set_cons_zero,List.set_cons_succ]
                refine wpAnyH_take (i:=20) (oi:=_) (v:=undef) rfl (by kernel_rfl) (by kernel_rfl) (by kernel_rfl) (fun _ _ _ h=>h) (Or.inr ⟨by rfl,rfl⟩) (by assumption) ?_
                try simp only [Act.put,List.getElem_toArray,List.getElem_cons_zero,List.getElem_cons_succ,List.setIfInBounds_toArray,List.set_cons_zero,List.set_cons_succ]
                refine wpAnyH_take (i:=21) (oi:=_) (v:=undef) rfl (by kernel_rfl) (by kernel_rfl) (by kernel_rfl) (fun _ _ _ h=>h) (Or.inr ⟨by rfl,rfl⟩) (by assumption) ?_
                try simp only [Act.put,List.getElem_toArray,List.getElem_cons_zero,List.getElem_cons_succ,List.setIfInBounds_toArray,List.set_cons_zero,List.set_cons_succ]
                refine wpAnyH_take (i:=22) (oi:=_) (v:=undef) rfl (by kernel_rfl) (by kernel_rfl) (by kernel_rfl) (fun _ _ _ h=>h) (Or.inr ⟨by rfl,rfl⟩) (by assumption) ?_
                try simp only [Act.put,List.getElem_toArray,List.getElem_cons_zero,List.getElem_cons_succ,List.setIfInBounds_toArray,List.set_cons_zero,List.set_cons_succ]
                refine wpAnyH_take (i:=23) (oi:=_) (v:=undef) rfl (by kernel_rfl) (by kernel_rfl) (by kernel_rfl) (fun _ _ _ h=>h) (Or.inr ⟨by rfl,rfl⟩) (by assumption) ?_
                try simp only [Act.put,List.getElem_toArray,List.getElem_cons_zero,List.getElem_cons_succ,List.setIfInBounds_toArray,List.set_cons_zero,List.set_cons_succ]
                refine wpAnyH_take (i:=24) (oi:=_) (v:=undef) rfl (by kernel_rfl) (by kernel_rfl) (by kernel_rfl) (fun _ _ _ h=>h) (Or.inr ⟨by rfl,rfl⟩) (by assumption) ?_
                try simp only [Act.put,List.getElem_toArray,List.getElem_cons_zero,List.getElem_cons_succ,List.setIfInBounds_toArray,List.set_cons_zero,List.set_cons_succ]
                refine wpAnyH_take (i:=25) (oi:=_) (v:=undef) rfl (by kernel_rfl) (by kernel_rfl) (by kernel_rfl) (fun _ _ _ h=>h) (Or.inr ⟨by rfl,rfl⟩) (by assumption) ?_
                try simp only [Act.put,List.getElem_toArray,List.getElem_cons_zero,List.getElem_cons_succ,List.setIfInBounds_toArray,List.set_cons_zero,List.set_cons_succ]
                refine wpAnyH_take (i:=26) (oi:=_) (v:=undef) rfl (by kernel_rfl) (by kernel_rfl) (by kernel_rfl) (fun _ _ _ h=>h) (Or.inr ⟨by rfl,rfl⟩) (by assumption) ?_
                try simp only [Act.put,List.getElem_toArray,List.getElem_cons_zero,List.getElem_cons_succ,List.setIfInBounds_toArray,List.set_cons_zero,List.set_cons_succ]
                refine wpAnyH_take (i:=27) (oi:=_) (v:=undef) rfl (by kernel_rfl) (by kernel_rfl) (by kernel_rfl) (fun _ _ _ h=>h) (Or.inr ⟨by rfl,rfl⟩) (by assumption) ?_
                try simp only [Act.put,List.getElem_toArray,List.getElem_cons_zero,List.getElem_cons_succ,List.setIfInBounds_toArray,List.set_cons_zero,List.set_cons_succ]
                refine wpAnyH_take (i:=28) (oi:=_) (v:=undef) rfl (by kernel_rfl) (by kernel_rfl) (by kernel_rfl) (fun _ _ _ h=>h) (Or.inr ⟨by rfl,rfl⟩) (by assumption) ?_
                try simp only [Act.put,List.getElem_toArray,List.getElem_cons_zero,List.getElem_cons_succ,List.setIfInBounds_toArray,List.set_cons_zero,List.set_cons_succ]
                refine wpAnyH_take (i:=29) (oi:=_) (v:=?_) rfl (by kernel_rfl) (by kernel_rfl) (by kernel_rfl) (fun _ _ _ h=>h) (Or.inl ⟨by rfl,?_⟩) (by assumption) ?_
                rotate_left
                · (intro w hSw;(try dsimp only at hSw);go_simp;try with_reducible rfl)
                try simp only [Act.put,List.getElem_toArray,List.getElem_cons_zero,List.getElem_cons_succ,List.setIfInBounds_toArray,List.set_cons_zero,List.set_cons_succ]
                refine wpAnyH_take (i:=30) (oi:=_) (v:=?_) rfl (by kernel_rfl) (by kernel_rfl) (by kernel_rfl) (fun _ _ _ h=>h) (Or.inl ⟨by rfl,?_⟩) (by assumption) ?_
                rotate_left
                · (intro w hSw;(try dsimp only at hSw);go_simp;try with_reducible rfl)
                try simp only [Act.put,List.getElem_toArray,List.getElem_cons_zero,List.getElem_cons_succ,List.setIfInBounds_toArray,List.set_cons_zero,List.set_cons_succ]
                refine wpAnyH_done (by kernel_rfl) ?_ _
                have K9:=Hd (KW.out.next (q_held hHeld))
                have L9:=Hd (L4.out.trans ((q_held hHeld).mono L4.out.size))
                clear hE z0 z1 z2 f1 f2 f3 f4 f5 f6 f7 f8 f9 hHeld
                go_wp2_with fail
                go_roundg g3
                case measure=>omega
                case rel=>exact ⟨q3+1,by omega,by go_num,K9.out,L9.out⟩
              | true =>
                rw [hh] at f4 PR
                have hrr:rightL S.defs ⟨p.tn,p.tl,p.tm,false,p.v⟩=true:=by simpa using PR
                rw [hrr] at RI
                clear PR hrr
                have hE:QC wr [(w.heap.size,0,(Value.slice (some ⟨bd,pd,none⟩) S.defs.length k)),(w.heap.size,1,(Value.string S.query)),(w.heap.size,2,(Value.string S.mutation)),(bp,p0+q3*10+1,(Value.string p.tn)),(bp,p0+q3*10+1+1,(Value.int .i64 p.tl)),(bp,p0+q3*10+1+2,(Value.int .i64 p.tm)),(bp,p0+q3*10+4,(Value.bool true)),(bp,p0+q3*10+5,(Value.int .i64 p.v.kd)),(bp,p0+q3*10+5+1,(Value.int .i64 p.v.nn)),(bp,p0+q3*10+5+2,(Value.string p.v.ss)),(bp,p0+q3*10+5+3,(Value.slice E3 p.v.ls.len j3)),(bp,p0+q3*10+5+4,(Value.slice E4 p.v.ms.len j4))] wr:=⟨fun cc hcc=>by
                  simp only [List.mem_cons,List.not_mem_nil,or_false] at hcc
                  rcases hcc with rfl|rfl|rfl|rfl|rfl|rfl|rfl|rfl|rfl|rfl|rfl|rfl<;>assumption,Below.refl _ _⟩
                have HL:Hid (∀ c,c ∈ [(w.heap.size,0,(Value.slice (some ⟨bd,pd,none⟩) S.defs.length k)),(w.heap.size,1,(Value.string S.query)),(w.heap.size,2,(Value.string S.mutation)),(bp,p0+q3*10+1,(Value.string p.tn)),(bp,p0+q3*10+1+1,(Value.int .i64 p.tl)),(bp,p0+q3*10+1+2,(Value.int .i64 p.tm)),(bp,p0+q3*10+4,(Value.bool true)),(bp,p0+q3*10+5,(Value.int .i64 p.v.kd)),(bp,p0+q3*10+5+1,(Value.int .i64 p.v.nn)),(bp,p0+q3*10+5+2,(Value.string p.v.ss)),(bp,p0+q3*10+5+3,(Value.slice E3 p.v.ls.len j3)),(bp,p0+q3*10+5+4,(Value.slice E4 p.v.ms.len j4))]→c.1 < wr.heap.size):=Hd (fun cc hcc=>by
                  have l0:=HG.out
                  have l1:=HBP.out
                  simp only [List.mem_cons,List.not_mem_nil,or_false] at hcc
                  rcases hcc with rfl|rfl|rfl|rfl|rfl|rfl|rfl|rfl|rfl|rfl|rfl|rfl<;>assumption)
                refine wp_region_held_drew (S:=(fun w'=>w'.cell? ⟨w.heap.size,0,none⟩=some (Value.slice (some ⟨bd,pd,none⟩) S.defs.length k)∧w'.cell? ⟨w.heap.size,1,none⟩=some (Value.string S.query)∧w'.cell? ⟨w.heap.size,2,none⟩=some (Value.string S.mutation)∧w'.cell? ⟨bp,p0+q3*10+1,none⟩=some (Value.string p.tn)∧w'.cell? ⟨bp,p0+q3*10+1+1,none⟩=some (Value.int .i64 p.tl)∧w'.cell? ⟨bp,p0+q3*10+1+2,none⟩=some (Value.int .i64 p.tm)∧w'.cell? ⟨bp,p0+q3*10+4,none⟩=some (Value.bool true)∧w'.cell? ⟨bp,p0+q3*10+5,none⟩=some (Value.int .i64 p.v.kd)∧w'.cell? ⟨bp,p0+q3*10+5+1,none⟩=some (Value.int .i64 p.v.nn)∧w'.cell? ⟨bp,p0+q3*10+5+2,none⟩=some (Value.string p.v.ss)∧w'.cell? ⟨bp,p0+q3*10+5+3,none⟩=some (Value.slice E3 p.v.ls.len j3)∧w'.cell? ⟨bp,p0+q3*10+5+4,none⟩=some (Value.slice E4 p.v.ms.len j4)∧QC wr [(w.heap.size,0,(Value.slice (some ⟨bd,pd,none⟩) S.defs.length k)),(w.heap.size,1,(Value.string S.query)),(w.heap.size,2,(Value.string S.mutation)),(bp,p0+q3*10+1,(Value.string p.tn)),(bp,p0+q3*10+1+1,(Value.int .i64 p.tl)),(bp,p0+q3*10+1+2,(Value.int .i64 p.tm)),(bp,p0+q3*10+4,(Value.bool true)),(bp,p0+q3*10+5,(Value.int .i64 p.v.kd)),(bp,p0+q3*10+5+1,(Value.int .i64 p.v.nn)),(bp,p0+q3*10+5+2,(Value.string p.v.ss)),(bp,p0+q3*10+5+3,(Value.slice E3 p.v.ls.len j3)),(bp,p0+q3*10+5+4,(Value.slice E4 p.v.ms.len j4))] w')) (by kernel_rfl) (q_written (hE.next HL.out (Below.drew (Below.refl _ _)))) (fun hHeld=>?_)
                refine wpAnyH_take (i:=0) (oi:=_) (v:=?_) rfl (by kernel_rfl) (by kernel_rfl) (by kernel_rfl) (fun _ _ _ h=>h) (Or.inl ⟨by rfl,?_⟩) (by assumption) ?_
                rotate_left
                · (intro w hSw;(try dsimp only at hSw);go_simp;try with_reducible rfl)
                try simp only [Act.put,List.getElem_toArray,List.getElem_cons_zero,List.setIfInBounds_toArray,List.set_cons_zero,List.set_cons_succ]
                refine wpAnyH_take (i:=1) (oi:=_) (v:=?_) rfl (by kernel_rfl) (by kernel_rfl) (by kernel_rfl) (fun _ _ _ h=>h) (Or.inl ⟨by rfl,?_⟩) (by assumption) ?_
                rotate_left
                · (intro w hSw;(try dsimp only at hSw);go_simp;try with_reducible rfl)
                try simp only [Act.put,List.getElem_toArray,List.getElem_cons_zero,List.getElem_cons_succ,List.setIfInBounds_toArray,List.set_cons_zero,List.set_cons_succ]
                refine wpAnyH_take (i:=2) (oi:=_) (v:=?_) rfl (by kernel_rfl) (by kernel_rfl) (by kernel_rfl) (fun _ _ _ h=>h) (Or.inl ⟨by rfl,?_⟩) (by assumption) ?_
                rotate_left
                · (intro w hSw;(try dsimp only at hSw);go_simp;try with_reducible rfl)
                try simp only [Act.put,List.getElem_toArray,List.getElem_cons_zero,List.getElem_cons_succ,List.setIfInBounds_toArray,List.set_cons_zero,List.set_cons_succ]
                refine wpAnyH_take (i:=3) (oi:=_) (v:=?_) rfl (by kernel_rfl) (by kernel_rfl) (by kernel_rfl) (fun _ _ _ h=>h) (Or.inl ⟨by rfl,?_⟩) (by assumption) ?_
                rotate_left
                · (intro w hSw;(try dsimp only at hSw);go_simp;try with_reducible rfl)
                try simp only [Act.put,List.getElem_toArray,List.getElem_cons_zero,List.getElem_cons_succ,List.setIfInBounds_toArray,List.set_cons_zero,List.set_cons_succ]
                refine wpAnyH_take (i:=4) (oi:=_) (v:=?_) rfl (by kernel_rfl) (by kernel_rfl) (by kernel_rfl) (fun _ _ _ h=>h) (Or.inl ⟨by rfl,?_⟩) (by assumption) ?_
                rotate_left
                · (intro w hSw;(try dsimp only at hSw);go_simp;try with_reducible rfl)
                try simp only [Act.put,List.getElem_toArray,List.getElem_cons_zero,List.getElem_cons_succ,List.setIfInBounds_toArray,List.set_cons_zero,List.set_cons_succ]
                refine wpAnyH_take (i:=5) (oi:=_) (v:=?_) rfl (by kernel_rfl) (by kernel_rfl) (by kernel_rfl) (fun _ _ _ h=>h) (Or.inl ⟨by rfl,?_⟩) (by assumption) ?_
                rotate_left
                · (intro w hSw;(try dsimp only at hSw);go_simp;try with_reducible rfl)
                try simp only [Act.put,List.getElem_toArray,List.getElem_cons_zero,List.getElem_cons_succ,List.setIfInBounds_toArray,List.set_cons_zero,List.set_cons_succ]
                refine wpAnyH_take (i:=6) (oi:=_) (v:=?_) rfl (by kernel_rfl) (by kernel_rfl) (by kernel_rfl) (fun _ _ _ h=>h) (Or.inl ⟨by rfl,?_⟩) (by assumption) ?_
                rotate_left
                · (intro w hSw;(try dsimp only at hSw);go_simp;try with_reducible rfl)
                try simp only [Act.put,List.getElem_toArray,List.getElem_cons_zero,List.getElem_cons_succ,List.setIfInBounds_toArray,List.set_cons_zero,List.set_cons_succ]
                refine wpAnyH_ready (rs:=[7]) (by kernel_rfl) (by simp) ?_
                refine AllReadyH.cons (o:=_) rfl (fun K hK=>?_) AllReadyH.nil
                go_simp
                refine (EN _ (q_held (by assumption))).mono ?_
                rintro e w' ⟨rfl,hb⟩
                go_wp2_with fail
                refine hK.out _ _ (q_written (QC.next (q_last (by assumption)) HL.out (by assumption))) (fun hHeld=>?_)
                clear hK K hb
                try simp only [Act.put,List.getElem_toArray,List.getElem_cons_zero,List.getElem_cons_succ,List.setIfInBounds_toArray,List.set_cons_zero,List.set_cons_succ]
                refine wpAnyH_take (i:=8) (oi:=_) (v:=?_) rfl (by kernel_rfl) (by kernel_rfl) (by kernel_rfl) (fun _ _ _ h=>h) (Or.inl ⟨by rfl,?_⟩) (by assumption) ?_
                rotate_left
                · (intro w hSw;(try dsimp only at hSw);go_simp;try with_reducible rfl)
                try simp only [Act.put,List.getElem_toArray,List.getElem_cons_zero,List.getElem_cons_succ,List.setIfInBounds_toArray,List.set_cons_zero,List.set_cons_succ]
                refine wpAnyH_take (i:=9) (oi:=_) (v:=?_) rfl (by kernel_rfl) (by kernel_rfl) (by kernel_rfl) (fun _ _ _ h=>h) (Or.inl ⟨by rfl,?_⟩) (by assumption) ?_
                rotate_left
                · (intro w hSw;(try dsimp only at hSw);go_simp;try with_reducible rfl)
                try simp only [Act.put,List.getElem_toArray,List.getElem_cons_zero,List.getElem_cons_succ,List.setIfInBounds_toArray,List.set_cons_zero,List.set_cons_succ]
                refine wpAnyH_take (i:=10) (oi:=_) (v:=?_) rfl (by kernel_rfl) (by kernel_rfl) (by kernel_rfl) (fun _ _ _ h=>h) (Or.inl ⟨by rfl,?_⟩) (by assumption) ?_
                rotate_left
                · (intro w hSw;(try dsimp only at hSw);go_simp;try with_reducible rfl)
                try simp only [Act.put,List.getElem_toArray,List.getElem_cons_zero,List.getElem_cons_succ,List.setIfInBounds_toArray,List.set_cons_zero,List.set_cons_succ]
                refine wpAnyH_take (i:=11) (oi:=_) (v:=?_) rfl (by kernel_rfl) (by kernel_rfl) (by kernel_rfl) (fun _ _ _ h=>h) (Or.inl ⟨by rfl,?_⟩) (by assumption) ?_
                rotate_left
                · (intro w hSw;(try dsimp only at hSw);go_simp;try with_reducible rfl)
                try simp only [Act.put,List.getElem_toArray,List.getElem_cons_zero,List.getElem_cons_succ,List.setIfInBounds_toArray,List.set_cons_zero,List.set_cons_succ]
                refine wpAnyH_take (i:=12) (oi:=_) (v:=?_) rfl (by kernel_rfl) (by kernel_rfl) (by kernel_rfl) (fun _ _ _ h=>h) (Or.inl ⟨by rfl,?_⟩) (by assumption) ?_
                rotate_left
                · (intro w hSw;(try dsimp only at hSw);go_simp;try with_reducible rfl)
                try simp only [Act.put,List.getElem_toArray,List.getElem_cons_zero,List.getElem_cons_succ,List.setIfInBounds_toArray,List.set_cons_zero,List.set_cons_succ]
                refine wpAnyH_take (i:=13) (oi:=_) (v:=?_) rfl (by kernel_rfl) (by kernel_rfl) (by kernel_rfl) (fun _ _ _ h=>h) (Or.inl ⟨by rfl,?_⟩) (by assumption) ?_
                rotate_left
                · (intro w hSw;(try dsimp only at hSw);go_simp;try with_reducible rfl)
                try simp only [Act.put,List.getElem_toArray,List.getElem_cons_zero,List.getElem_cons_succ,List.setIfInBounds_toArray,List.set_cons_zero,List.set_cons_succ]
                refine wpAnyH_take (i:=14) (oi:=_) (v:=?_) rfl (by kernel_rfl) (by kernel_rfl) (by kernel_rfl) (fun _ _ _ h=>h) (Or.inl ⟨by rfl,?_⟩) (by assumption) ?_
                rotate_left
                · (intro w hSw;(try dsimp only at hSw);go_simp;try with_reducible rfl)
                try simp only [Act.put,List.getElem_toArray,List.getElem_cons_zero,List.getElem_cons_succ,List.setIfInBounds_toArray,List.set_cons_zero,List.set_cons_succ]
                refine wpAnyH_take (i:=15) (oi:=_) (v:=?_) rfl (by kernel_rfl) (by kernel_rfl) (by kernel_rfl) (fun _ _ _ h=>h) (Or.inl ⟨by rfl,?_⟩) (by assumption) ?_
                rotate_left
                · (intro w hSw;(try dsimp only at hSw);go_simp;try with_reducible rfl)
                try simp only [Act.put,List.getElem_toArray,List.getElem_cons_zero,List.getElem_cons_succ,List.setIfInBounds_toArray,List.set_cons_zero,List.set_cons_succ]
                refine wpAnyH_take (i:=16) (oi:=_) (v:=?_) rfl (by kernel_rfl) (by kernel_rfl) (by kernel_rfl) (fun _ _ _ h=>h) (Or.inl ⟨by rfl,?_⟩) (by assumption) ?_
                rotate_left
                · (intro w hSw;(try dsimp only at hSw);go_simp;try with_reducible rfl)
                try simp only [Act.put,List.getElem_toArray,List.getElem_cons_zero,List.getElem_cons_succ,List.setIfInBounds_toArray,List.set_cons_zero,List.set_cons_succ]
                refine wpAnyH_take (i:=17) (oi:=_) (v:=?_) rfl (by kernel_rfl) (by kernel_rfl) (by kernel_rfl) (fun _ _ _ h=>h) (Or.inl ⟨by rfl,?_⟩) (by assumption) ?_
                rotate_left
                · (intro w hSw;(try dsimp only at hSw);go_simp;try with_reducible rfl)
                try simp only [Act.put,List.getElem_toArray,List.getElem_cons_zero,List.getElem_cons_succ,List.setIfInBounds_toArray,List.set_cons_zero,List.set_cons_succ]
                refine wpAnyH_take (i:=18) (oi:=_) (v:=?_) rfl (by kernel_rfl) (by kernel_rfl) (by kernel_rfl) (fun _ _ _ h=>h) (Or.inl ⟨by rfl,?_⟩) (by assumption) ?_
                rotate_left
                · (intro w hSw;(try dsimp only at hSw);go_simp;try with_reducible rfl)
                try simp only [Act.put,List.getElem_toArray,List.getElem_cons_zero,List.getElem_cons_succ,List.setIfInBounds_toArray,List.set_cons_zero,List.set_cons_succ]
                refine wpAnyH_take (i:=19) (oi:=_) (v:=?_) rfl (by kernel_rfl) (by kernel_rfl) (by kernel_rfl) (fun _ _ _ h=>h) (Or.inl ⟨by rfl,?_⟩) (by assumption) ?_
                rotate_left
                · (intro w hSw;(try dsimp only at hSw);go_simp;try with_reducible rfl)
                try simp only [Act.put,List.getElem_toArray,List.getElem_cons_zero,List.getElem_cons_succ,List.setIfInBounds_toArray,List.set_cons_zero,List.set_cons_succ]
                refine wpAnyH_take (i:=20) (oi:=_) (v:=?_) rfl (by kernel_rfl) (by kernel_rfl) (by kernel_rfl) (fun _ _ _ h=>h) (Or.inl ⟨by rfl,?_⟩) (by assumption) ?_
                rotate_left
                · (intro w hSw;(try dsimp only at hSw);go_simp;try with_reducible rfl)
                try simp only [Act.put,List.getElem_toArray,List.getElem_cons_zero,List.getElem_cons_succ,List.setIfInBounds_toArray,List.set_cons_zero,List.set_cons_succ]
                refine wpAnyH_take (i:=21) (oi:=_) (v:=?_) rfl (by kernel_rfl) (by kernel_rfl) (by kernel_rfl) (fun _ _ _ h=>h) (Or.inl ⟨by rfl,?_⟩) (by assumption) ?_
                rotate_left
                · (intro w hSw;(try dsimp only at hSw);go_simp;try with_reducible rfl)
                try simp only [Act.put,List.getElem_toArray,List.getElem_cons_zero,List.getElem_cons_succ,List.setIfInBounds_toArray,List.set_cons_zero,List.set_cons_succ]
                refine wpAnyH_take (i:=22) (oi:=_) (v:=?_) rfl (by kernel_rfl) (by kernel_rfl) (by kernel_rfl) (fun _ _ _ h=>h) (Or.inl ⟨by rfl,?_⟩) (by assumption) ?_
                rotate_left
                · (intro w hSw;(try dsimp only at hSw);go_simp;try with_reducible rfl)
                try simp only [Act.put,List.getElem_toArray,List.getElem_cons_zero,List.getElem_cons_succ,List.setIfInBounds_toArray,List.set_cons_zero,List.set_cons_succ]
                refine wpAnyH_take (i:=23) (oi:=_) (v:=?_) rfl (by kernel_rfl) (by kernel_rfl) (by kernel_rfl) (fun _ _ _ h=>h) (Or.inl ⟨by rfl,?_⟩) (by assumption) ?_
                rotate_left
                · (intro w hSw;(try dsimp only at hSw);go_simp;try with_reducible rfl)
                try simp only [Act.put,List.getElem_toArray,List.getElem_cons_zero,List.getElem_cons_succ,List.setIfInBounds_toArray,List.set_cons_zero,List.set_cons_succ]
                refine wpAnyH_take (i:=24) (oi:=_) (v:=?_) rfl (by kernel_rfl) (by kernel_rfl) (by kernel_rfl) (fun _ _ _ h=>h) (Or.inl ⟨by rfl,?_⟩) (by assumption) ?_
                rotate_left
                · (intro w hSw;(try dsimp only at hSw);go_simp;try with_reducible rfl)
                try simp only [Act.put,List.getElem_toArray,List.getElem_cons_zero,List.getElem_cons_succ,List.setIfInBounds_toArray,List.set_cons_zero,List.set_cons_succ]
                refine wpAnyH_take (i:=25) (oi:=_) (v:=?_) rfl (by kernel_rfl) (by kernel_rfl) (by kernel_rfl) (fun _ _ _ h=>h) (Or.inl ⟨by rfl,?_⟩) (by assumption) ?_
                rotate_left
                · (intro w hSw;(try dsimp only at hSw);go_simp;try with_reducible rfl)
                try simp only [Act.put,List.getElem_toArray,List.getElem_cons_zero,List.getElem_cons_succ,List.setIfInBounds_toArray,List.set_cons_zero,List.set_cons_succ]
                refine wpAnyH_take (i:=26) (oi:=_) (v:=?_) rfl (by kernel_rfl) (by kernel_rfl) (by kernel_rfl) (fun _ _ _ h=>h) (Or.inl ⟨by rfl,?_⟩) (by assumption) ?_
                rotate_left
                · (intro w hSw;(try dsimp only at hSw);go_simp;try with_reducible rfl)
                try simp only [Act.put,List.getElem_toArray,List.getElem_cons_zero,List.getElem_cons_succ,List.setIfInBounds_toArray,List.set_cons_zero,List.set_cons_succ]
                refine wpAnyH_ready (rs:=[27]) (by kernel_rfl) (by simp) ?_
                refine AllReadyH.cons (o:=_) rfl (fun K hK=>?_) AllReadyH.nil
                go_simp
                refine (RI _ (q_held (by assumption))).mono ?_
                rintro e w' ⟨rfl,hb⟩
                go_wp2_with fail
                refine hK.out _ _ (q_written (QC.next (q_last (by assumption)) HL.out (by assumption))) (fun hHeld=>?_)
                clear hK K hb
                try simp only [Act.put,List.getElem_toArray,List.getElem_cons_zero,List.getElem_cons_succ,List.setIfInBounds_toArray,List.set_cons_zero,List.set_cons_succ]
                refine wpAnyH_take (i:=28) (oi:=_) (v:=?_) rfl (by kernel_rfl) (by kernel_rfl) (by kernel_rfl) (fun _ _ _ h=>h) (Or.inl ⟨by rfl,?_⟩) (by assumption) ?_
                rotate_left
                · (intro w hSw;(try dsimp only at hSw);go_simp;try with_reducible rfl)
                try simp only [Act.put,List.getElem_toArray,List.getElem_cons_zero,List.getElem_cons_succ,List.setIfInBounds_toArray,List.set_cons_zero,List.set_cons_succ]
                refine wpAnyH_take (i:=29) (oi:=_) (v:=?_) rfl (by kernel_rfl) (by kernel_rfl) (by kernel_rfl) (fun _ _ _ h=>h) (Or.inl ⟨by rfl,?_⟩) (by assumption) ?_
                rotate_left
                · (intro w hSw;(try dsimp only at hSw);go_simp;try with_reducible rfl)
                try simp only [Act.put,List.getElem_toArray,List.getElem_cons_zero,List.getElem_cons_succ,List.setIfInBounds_toArray,List.set_cons_zero,List.set_cons_succ]
                refine wpAnyH_take (i:=30) (oi:=_) (v:=?_) rfl (by kernel_rfl) (by kernel_rfl) (by kernel_rfl) (fun _ _ _ h=>h) (Or.inl ⟨by rfl,?_⟩) (by assumption) ?_
                rotate_left
                · (intro w hSw;(try dsimp only at hSw);go_simp;try with_reducible rfl)
                try simp only [Act.put,List.getElem_toArray,List.getElem_cons_zero,List.getElem_cons_succ,List.setIfInBounds_toArray,List.set_cons_zero,List.set_cons_succ]
                refine wpAnyH_done (by kernel_rfl) ?_ _
                have K9:=Hd (KW.out.next (q_held hHeld))
                have L9:=Hd (L4.out.trans ((q_held hHeld).mono L4.out.size))
                clear hE z0 z1 z2 f1 f2 f3 f4 f5 f6 f7 f8 f9 hHeld
                go_wp2_with fail
                go_roundg g3
                case measure=>omega
                case rel=>exact ⟨q3+1,by omega,by go_num,K9.out,L9.out⟩
         | succ g2 =>
           have hq2n:q2 < d.fields.length:=by omega
           have hq2n':(q2:Int) < (d.fields.length:Int):=by omega
           obtain ⟨f,hf⟩:∃ x,d.fields[q2]? = some x:=⟨_,List.getElem?_eq_getElem hq2n⟩
           have hpe:=pars_next hf
           have hpl:=pars_len HDN.out (q2+1)
           rw [hpe,List.length_append] at hpl
           obtain ⟨bf,pf,cs,rfl,hltf,hcf,hTf⟩:=rowOf_at 6 len_fld (RowT.below (HB2.out.mono KR.out.low.size) HFX.out) hf
           obtain ⟨Aq,kq,Ad,kd,rfl,_,⟨lq,hq4⟩,_⟩:=fld_cells hTf
           have f1:wr.cell? ⟨bf,pf+q2*6+1,none⟩=_:=hcf 1 _ rfl
           obtain ⟨news,hn1,hn2⟩:=row_cellsA hq4
           have hnl:news.length=f.params.length*10:=tlv_len len_par hn1
           have hno:∀ u,u ∈ news→u.oneCell'=true:=tlv_one one_par hn1
           have HM:=Hd hn1
           have HPE2:=Hd hpe
           obtain ⟨xs,hO2,hT2⟩:=HP2.out
           have O2:=Hd hO2
           have T2:=Hd hT2
           have hb5:=HB2.out.size
           clear hTf hcf hf hq4 hn1 hO2 hT2 hpe HP2 lq hltf
           go_wp2_with (at_builtin;refine wpList_app_row rfl _ _ 35 rfl w5.heap.size 56 i0 z 10 136 Tryz.underlying35 hi hz0 hz1 hz2 hz3 (by decide) _ (parsD d q2).length xs rfl O2.out Aq f.params.length kq news rfl hnl hn2 hno (by unfold maxLen;omega) (by omega) hb5 ?_;intro V7 w7 hown hgrow;have HG7:=Hd hgrow;have HO7:=Hd hown;clear hown hgrow)
           have B7:=below_grown (B:=w5.heap.size) HB2.out HG7.out HB2.out.size (fun b hb=>(O2.out.lt b hb).1)
           have L7:=below_grown (B:=w.heap.size) (Below.refl _ _) HG7.out KN.out.low.size (fun b hb=>Nat.le_trans KR.out.low.size (O2.out.lt b hb).1)
           have P7:ParsO w.heap.size w5.heap.size w7 V7 (parsD d (q2+1)):=⟨xs++news,by rw [HPE2.out,List.length_append];exact HO7.out,by rw [HPE2.out];exact tlv_app (TLV.keep (fun b hx=>⟨hx,L7.block b hx⟩) HM.out) (TLV.keep (fun b hx=>⟨hx,L7.block b hx⟩) T2.out)⟩
           have HP7:=Hd P7
           have HB7:=Hd B7
           clear P7 B7 L7 HO7 HG7 T2 HM O2 hn2 hnl hno z0 z1 z2 y3 f1
           go_wp2_with fail
           go_roundg g2
           case measure=>omega
           case rel=>exact ⟨q2+1,by omega,by go_num,HB7.out,HP7.out⟩
end Go.Proofs.YtbgenomboagmaaaGreatDoor.LSDef
