/- The walk of the law BindSplits. (gen_bsplits.py wrote it.) -/
import Derived.Test.YtaekdfcpbepepaaGreatDoorQby
import Derived.Test.YtaekdfcpbepepaaGreatDoorQbz
import Derived.Deep.CutRange
import Derived.Deep.DeepCutAuto
import Derived.Test.YtaekdfcpbepepaaGreatDoorRbBiLaw
set_option maxRecDepth 100000
set_option maxHeartbeats 8000000
namespace Go.Proofs.YtaekdfcpbepepaaGreatDoor.LBSplits
open List renaming getElem_toArray → zgA, getElem_cons_zero → zgB, getElem_cons_succ → zgC
open Go.RowKit
theorem nth_in {l:List ByteArray} {k:Nat} (h:k < l.length):nthB l k ∈ l:=by
 unfold nthB
 rw [List.getD_eq_getElem?_getD,List.getElem?_eq_getElem h]
 exact List.getElem_mem h
theorem told_table {d:DirT} (h:(toldT d).2=true) (hh:(toldT d).1.how=1∨(toldT d).1.how=2) : ¬ (toldT d).1.table.toList=[]:=by
 unfold toldT at h hh ⊢
 by_cases h1:(d.1.toList == [99,111,108])=true
 · rw [if_pos h1] at hh
   exact absurd (show (0:Int)=1∨(0:Int)=2 from hh) (by decide)
 rw [if_neg h1] at h hh ⊢
 by_cases h2:(d.1.toList == [108,105,110,107])=true
 · rw [if_pos h2] at h ⊢
   exact texts_full _ _ _ h _ (nth_in (by have:=textsL_len [nmTable,nmCol] d.2.list;unfold textsL at this;rw [this];decide))
 rw [if_neg h2] at h hh ⊢
 by_cases h3:(d.1.toList == [103,101,116])=true
 · rw [if_pos h3] at h ⊢
   exact texts_full _ _ _ h _ (nth_in (by have:=textsL_len [nmTable,nmArg] d.2.list;unfold textsL at this;rw [this];decide))
 rw [if_neg h3] at h hh ⊢
 by_cases h4:(d.1.toList == [100,111])=true
 · rw [if_pos h4] at hh
   unfold commandT at hh
   by_cases h5:(textsL [nmCmd,nmTable,nmCol] d.2.list).2=true
   · rw [if_pos h5] at hh
     exact absurd (show (3:Int)=1∨(3:Int)=2 from hh) (by decide)
   · rw [if_neg h5] at hh
     exact absurd (show (3:Int)=1∨(3:Int)=2 from hh) (by decide)
 · rw [if_neg h4] at h
   cases h
theorem source_table {ds:List DirT} {nm:ByteArray} (h:(sourceT ds nm).2=true) (hh:(sourceT ds nm).1.how=1∨(sourceT ds nm).1.how=2) : ¬ (sourceT ds nm).1.table.toList=[]:=by
 match ds with
 | []=>exact absurd (show (0:Int)=1∨(0:Int)=2 from hh) (by decide)
 | [d]=>exact told_table h hh
 | _ :: _ :: _=>cases h
theorem split_facts {S:SchT} {typ:ByteArray} {f:FieldT} (h:ofOkB S typ f=true) :
   ((sourceT f.dirs f.name).1.how == 3)=changesB S typ∧(((sourceT f.dirs f.name).1.how == 0)=true→leafD S.defs f.tn=true)∧(((sourceT f.dirs f.name).1.how == 1 || (sourceT f.dirs f.name).1.how == 2)=true→compD S.defs f.tn=true∧((sourceT f.dirs f.name).1.table.toList == [])=false):=by
 obtain ⟨h1,h2,h3⟩:=of_parts h
 refine ⟨h3,fun e=>?_,fun e=>?_⟩
 · have e':(sourceT f.dirs f.name).1.how=0:=eq_of_beq e
   unfold fitsT at h2
   rw [e',if_pos (by decide)] at h2
   exact h2
 · rw [Bool.or_eq_true] at e
   have e':(sourceT f.dirs f.name).1.how=1∨(sourceT f.dirs f.name).1.how=2:=e.imp eq_of_beq eq_of_beq
   have ht:=source_table h1 e'
   refine ⟨?_,?_⟩
   · unfold fitsT at h2
     have key:ofRowsB S f.tn=true:=by
      rcases e' with e'|e'
      · rw [e',if_neg (by decide),if_pos (by decide)] at h2
        exact h2
      · rw [e',if_neg (by decide),if_neg (by decide),if_pos (by decide),Bool.and_eq_true] at h2
        exact h2.1
     unfold ofRowsB at key
     rw [Bool.and_eq_true] at key
     exact key.1
   · cases e2:((sourceT f.dirs f.name).1.table.toList == []) with
     | false=>rfl
     | true=>exact absurd (eq_of_beq e2) ht
theorem on_below {W W':World} {g i:Nat} {v:Value} (h:W.cell? ⟨g,i,none⟩=some v) (hb:Below W.heap.size W W'):W'.cell? ⟨g,i,none⟩=some v:=
 (hb.cell (p:=⟨g,i,none⟩) (World.block_lt_of_cell? W ⟨g,i,none⟩ h)).trans h
abbrev S11 (gs gd bf o:Nat) (c0 c1 c2 dn df e0 e1 e2 e3 e4 e5:Value) (w:World):Prop:=w.cell? ⟨gs,0,none⟩=some c0∧w.cell? ⟨gs,1,none⟩=some c1∧w.cell? ⟨gs,2,none⟩=some c2∧w.cell? ⟨gd,1,none⟩=some dn∧w.cell? ⟨gd,3,none⟩=some df∧w.cell? ⟨bf,o,none⟩=some e0∧w.cell? ⟨bf,o+1,none⟩=some e1∧w.cell? ⟨bf,o+2,none⟩=some e2∧w.cell? ⟨bf,o+3,none⟩=some e3∧w.cell? ⟨bf,o+4,none⟩=some e4∧w.cell? ⟨bf,o+5,none⟩=some e5
theorem S11.next {gs gd bf o:Nat} {c0 c1 c2 dn df e0 e1 e2 e3 e4 e5:Value} {W W':World} (h:S11 gs gd bf o c0 c1 c2 dn df e0 e1 e2 e3 e4 e5 W) (hb:Below W.heap.size W W'):S11 gs gd bf o c0 c1 c2 dn df e0 e1 e2 e3 e4 e5 W':=by
 obtain ⟨h0,h1,h2,h3,h4,h5,h6,h7,h8,h9,h10⟩:=h
 exact ⟨on_below h0 hb,on_below h1 hb,on_below h2 hb,on_below h3 hb,on_below h4 hb,on_below h5 hb,on_below h6 hb,on_below h7 hb,on_below h8 hb,on_below h9 hb,on_below h10 hb⟩
abbrev S7 (gs gd gx bf o:Nat) (c0 c1 c2 df x0 x1 e2:Value) (w:World):Prop:=w.cell? ⟨gs,0,none⟩=some c0∧w.cell? ⟨gs,1,none⟩=some c1∧w.cell? ⟨gs,2,none⟩=some c2∧w.cell? ⟨gd,3,none⟩=some df∧w.cell? ⟨gx,0,none⟩=some x0∧w.cell? ⟨gx,1,none⟩=some x1∧w.cell? ⟨bf,o+2,none⟩=some e2
theorem S7.next {gs gd gx bf o:Nat} {c0 c1 c2 df x0 x1 e2:Value} {W W':World} (h:S7 gs gd gx bf o c0 c1 c2 df x0 x1 e2 W) (hb:Below W.heap.size W W'):S7 gs gd gx bf o c0 c1 c2 df x0 x1 e2 W':=by
 obtain ⟨h0,h1,h2,h3,h4,h5,h6⟩:=h
 exact ⟨on_below h0 hb,on_below h1 hb,on_below h2 hb,on_below h3 hb,on_below h4 hb,on_below h5 hb,on_below h6 hb⟩
theorem far5b {g b:Nat} {x0 x1 x2 x3 x4:Value} {W:World} (hn:g ≠ b):(((((W.setCell ⟨g,0,none⟩ x0).setCell ⟨g,1,none⟩ x1).setCell ⟨g,2,none⟩ x2).setCell ⟨g,3,none⟩ x3).setCell ⟨g,4,none⟩ x4).heap[b]? = W.heap[b]?:=by
 simp [World.setCell,Array.getElem?_modify,hn]
theorem far5 {g b i:Nat} {x0 x1 x2 x3 x4 v:Value} {W:World} (hn:g ≠ b) (h:W.cell? ⟨b,i,none⟩=some v):(((((W.setCell ⟨g,0,none⟩ x0).setCell ⟨g,1,none⟩ x1).setCell ⟨g,2,none⟩ x2).setCell ⟨g,3,none⟩ x3).setCell ⟨g,4,none⟩ x4).cell? ⟨b,i,none⟩=some v:=by
 rw [← h]
 unfold World.cell?
 rw [far5b hn]
theorem s11_far {gs gd bf o g:Nat} {c0 c1 c2 dn df e0 e1 e2 e3 e4 e5 x0 x1 x2 x3 x4:Value} {W:World} (h:S11 gs gd bf o c0 c1 c2 dn df e0 e1 e2 e3 e4 e5 W) (hn:g ≠ gs∧g ≠ gd∧g ≠ bf):S11 gs gd bf o c0 c1 c2 dn df e0 e1 e2 e3 e4 e5 (((((W.setCell ⟨g,0,none⟩ x0).setCell ⟨g,1,none⟩ x1).setCell ⟨g,2,none⟩ x2).setCell ⟨g,3,none⟩ x3).setCell ⟨g,4,none⟩ x4):=by
 obtain ⟨h0,h1,h2,h3,h4,h5,h6,h7,h8,h9,h10⟩:=h
 exact ⟨far5 hn.1 h0,far5 hn.1 h1,far5 hn.1 h2,far5 hn.2.1 h3,far5 hn.2.1 h4,far5 hn.2.2 h5,far5 hn.2.2 h6,far5 hn.2.2 h7,far5 hn.2.2 h8,far5 hn.2.2 h9,far5 hn.2.2 h10⟩
theorem s11_new {gs gd bf o:Nat} {c0 c1 c2 dn df e0 e1 e2 e3 e4 e5:Value} {w W:World} {l:List (Nat × Obj)} (h:S11 gs gd bf o c0 c1 c2 dn df e0 e1 e2 e3 e4 e5 W) (_:Kp w l W):W.heap.size ≠ gs∧W.heap.size ≠ gd∧W.heap.size ≠ bf:=by
 obtain ⟨h0,_,_,h3,_,h5,_⟩:=h
 have a:=World.block_lt_of_cell? W ⟨gs,0,none⟩ h0
 have b:=World.block_lt_of_cell? W ⟨gd,1,none⟩ h3
 have c:=World.block_lt_of_cell? W ⟨bf,o,none⟩ h5
 exact ⟨Nat.ne_of_gt a,Nat.ne_of_gt b,Nat.ne_of_gt c⟩
theorem kp_five {w W:World} {g gd gs bf:Nat} {sd ss:Obj} {y0 y1 y2 y3 y4 x0 x1 x2 x3 x4:Value} {t:TypeId} (h:Kp w [(g,.cells #[y0,y1,y2,y3,y4] t (0,0)),(gd,sd),(gs,ss)] W) (hn:g ≠ gs∧g ≠ gd∧g ≠ bf) (hle:w.heap.size≤g):Kp w [(g,.cells #[x0,x1,x2,x3,x4] t (0,0)),(gd,sd),(gs,ss)] (((((W.setCell ⟨g,0,none⟩ x0).setCell ⟨g,1,none⟩ x1).setCell ⟨g,2,none⟩ x2).setCell ⟨g,3,none⟩ x3).setCell ⟨g,4,none⟩ x4):=
 ⟨five_down h.1 hle,fun p hp=>by
  simp only [List.mem_cons,List.not_mem_nil,or_false] at hp
  rcases hp with rfl|rfl|rfl
  · exact five_put h.h0
  · exact (far5b hn.2.1).trans h.h1
  · exact (far5b hn.1).trans h.h2⟩
theorem walk (w : World) (S:SchT) (c0 c1 c2:Value) (hw:Laid5 w) (hz:SlimS S) (hlg:ligN S≤1048576) (hS:TS w (fun b=>b < w.heap.size) (encSch S) [c0,c1,c2]) :
   Calls Tryz.prog 8 #[.agg #[c0,c1,c2]] w fun e w'=>e=.returned (.bool true)∧Below w.heap.size w w':=by
 obtain ⟨A,k,e,hl,hR⟩:=sch_cells hS
 injection e with e0 e
 injection e with e1 e
 injection e with e2 e
 subst e0 e1 e2
 have LG:=Hd (fun (wx:World) (h:Below w.heap.size w wx)=>lightN_any S _ _ _ wx w.heap.size h.size (TS.low h hS) hlg)
 have CK:=Hd (fun (ok:OkS S) (wx:World) (h:Below w.heap.size w wx)=>bcheck_any S ok _ _ _ wx w.heap.size h.size (TS.low h hS) (hw.below h))
 have AW:=Hd (fun (wx:World) (h:Below w.heap.size w wx)=>baw_any wx (hw.below h))
 have HOK:=Hd (fun (h:ligN S≤4000)=>okS_of h hz)
 have HR:=Hd (fun (wx:World) (h:Below w.heap.size w wx)=>RowT.below h hR)
 have OF:=Hd (fun (typ:ByteArray) (f:FieldT) (e0 e1 e2 e3 e4 e5:Value) (wx:World) (h:Below w.heap.size w wx) (hF:TS wx (fun b=>b < w.heap.size) (encField f) [e0,e1,e2,e3,e4,e5])=>of_any S typ f _ _ _ e0 e1 e2 e3 e4 e5 wx w.heap.size h.size hz (TS.low h hS) hF)
 have LF:=Hd (fun (n:ByteArray) (hn:n.size≤9223372036854775807) (wx:World) (h:Below w.heap.size w wx)=>leaf_any S n _ _ _ wx w.heap.size h.size hn (TS.low h hS))
 have CO:=Hd (fun (n:ByteArray) (hn:n.size≤9223372036854775807) (wx:World) (h:Below w.heap.size w wx)=>composite_any S n _ _ _ wx w.heap.size h.size hn (TS.low h hS))
 have HK1:Hid (Kp w [(w.heap.size,.cells #[.slice A S.defs.length k,.string S.query,.string S.mutation] 24 (0,0))] (w.alloc (.cells #[.slice A S.defs.length k,.string S.query,.string S.mutation] 24))):=Hd (Kp.put (l:=[]) ⟨Below.refl _ _,fun p hp=>by cases hp⟩ (.cells #[.slice A S.defs.length k,.string S.query,.string S.mutation] 24))
 clear hw hz hlg hS hR e
 go_enter Tryz.func8,Tryz.ntmps8
 go_upto_region 1 with fail
 generalize w.alloc (.cells #[.slice A S.defs.length k,.string S.query,.string S.mutation] 24)=w1 at HK1 ⊢
 obtain ⟨z0,z1,z2⟩:=three_cells HK1.out.h0
 obtain ⟨lb,hlb⟩:∃ b,decide (((ligN S:Nat):Int)≤4000)=b:=⟨_,rfl⟩
 have LB:=Hd hlb
 rw [hlb] at LG
 clear hlb
 cases lb with
 | false =>
   go_wp2_with fail
   refine (LG.out _ HK1.out.1).mono ?_
   rintro e w2 ⟨rfl,hb⟩
   have K2:=Hd (HK1.out.next hb)
   clear hb
   go_wp2_with fail
   refine (AW.out _ K2.out.1).mono ?_
   rintro e w9 ⟨rfl,hb⟩
   have K9:=Hd (K2.out.next hb)
   clear hb
   go_wp2_with fail
   go_ret
   exact ⟨rfl,K9.out.1⟩
 | true =>
   have HOK1:=Hd (HOK.out (by have:=of_decide_eq_true LB.out;omega))
   have CK1:=Hd (CK.out HOK1.out)
   clear CK HOK
   go_wp2_with fail
   refine (LG.out _ HK1.out.1).mono ?_
   rintro e w2 ⟨rfl,hb⟩
   have K2:=Hd (HK1.out.next hb)
   clear hb z0 z1 z2 LG HK1
   obtain ⟨z0,z1,z2⟩:=three_cells K2.out.h0
   obtain ⟨sb,hsb⟩:∃ b,servB S=b:=⟨_,rfl⟩
   have HSB:=Hd hsb
   rw [hsb] at CK1
   clear hsb
   cases sb with
   | false =>
     go_wp2_with fail
     refine (CK1.out _ K2.out.1).mono ?_
     rintro e w3 ⟨rfl,hb⟩
     have K3:=Hd (K2.out.next hb)
     clear hb
     go_wp2_with fail
     refine (AW.out _ K3.out.1).mono ?_
     rintro e w9 ⟨rfl,hb⟩
     have K9:=Hd (K3.out.next hb)
     clear hb
     go_wp2_with fail
     go_ret
     exact ⟨rfl,K9.out.1⟩
   | true =>
     go_wp2_with fail
     refine (CK1.out _ K2.out.1).mono ?_
     rintro e w3 ⟨rfl,hb⟩
     have K3:=Hd (K2.out.next hb)
     clear hb CK1 K2 z0 z1 z2
     go_wp2_with fail
     go_loopg [3] S.defs.length (fun g i wx=>∃ q:Nat,q+g=S.defs.length∧i=.int .i64 q∧Kp w [(w.heap.size,.cells #[.slice A S.defs.length k,.string S.query,.string S.mutation] 24 (0,0))] wx)
     case atStart=>exact ⟨0,by omega,rfl,K3.out⟩
     case round =>
      obtain ⟨q,hq,rfl,hb⟩:=hrel
      obtain ⟨wo,rfl⟩:∃ x,x=wr:=⟨_,rfl⟩
      have KR:=Hd hb
      clear hb
      obtain ⟨z0,z1,z2⟩:=three_cells KR.out.h0
      cases gk with
      | zero =>
        obtain rfl:q=S.defs.length:=by omega
        go_wp2_with fail
        refine (AW.out _ KR.out.1).mono ?_
        rintro e w9 ⟨rfl,hb⟩
        have K9:=Hd (KR.out.next hb)
        clear hb
        go_wp2_with fail
        go_ret
        exact ⟨rfl,K9.out.1⟩
      | succ g1 =>
        have hqn:q < S.defs.length:=by omega
        have hqn':(q:Int) < (S.defs.length:Int):=by omega
        obtain ⟨d,hd⟩:∃ x,S.defs[q]? = some x:=⟨_,List.getElem?_eq_getElem hqn⟩
        have HD:=Hd (List.mem_of_getElem? hd)
        obtain ⟨bd,pd,d0,d1,d2,d3,d4,d5,rfl,hlt,⟨y0,y1,y2,y3,y4,y5⟩,hT⟩:=defn_at (HR.out _ KR.out.1) hd
        obtain ⟨Af,kf,Ax,kx,Ap,kp,Am,km,e,_,_,⟨lx,hx⟩,_,_,_⟩:=defn_cells hT
        simp only [List.cons.injEq,and_true] at e
        obtain ⟨rfl,rfl,rfl,rfl,rfl,rfl⟩:=e
        have HFX:=Hd (fun (wx:World) (h:Below wo.heap.size wo wx)=>RowT.below (h.mono KR.out.1.size) hx)
        clear hT hd hx
        go_upto_region 7 with fail
        have K4:=Hd (KR.out.put (.cells #[.int .i64 d.kind,.string d.name,.slice Af d.faces.length kf,.slice Ax d.fields.length kx,.slice Ap d.parts.length kp,.slice Am d.params.length km] 37))
        have B4:=Hd (dbelow_new wo (.cells #[.int .i64 d.kind,.string d.name,.slice Af d.faces.length kf,.slice Ax d.fields.length kx,.slice Ap d.parts.length kp,.slice Am d.params.length km] 37))
        generalize wo.alloc (.cells #[.int .i64 d.kind,.string d.name,.slice Af d.faces.length kf,.slice Ax d.fields.length kx,.slice Ap d.parts.length kp,.slice Am d.params.length km] 37)=w4 at K4 B4 ⊢
        generalize hgd:wo.heap.size=gd at K4 ⊢
        clear hgd y0 y1 y2 y3 y4 y5 z0 z1 z2
        obtain ⟨⟨y0,y1,y2,y3,y4,y5⟩,_⟩:=six_cells K4.out.h0
        cases hk:(d.kind == 1) with
        | false =>
          go_wp2_with fail
          go_loopg [5] d.fields.length (fun g i wx=>∃ q2:Nat,q2=0∧g=d.fields.length∧i=.int .i64 q2∧wx=w4)
          case atStart=>exact ⟨0,rfl,rfl,rfl,rfl⟩
          case round =>
           obtain ⟨q2,rfl,hg2,rfl,rfl⟩:=hrel
           rcases Nat.eq_zero_or_pos d.fields.length with h0|h0
           · have h1 : ¬ (0:Int) < (d.fields.length:Int):=by omega
             go_wp2_with fail
             go_roundg g1
             case measure=>omega
             case rel=>exact ⟨q+1,by omega,by go_num,K4.out.tail⟩
           · have h1:(0:Int) < (d.fields.length:Int):=by omega
             go_wp2_with fail
             go_roundg g1
             case measure=>omega
             case rel=>exact ⟨q+1,by omega,by go_num,K4.out.tail⟩
        | true =>
          have HSO:=Hd (fun (f:FieldT) (hf:f ∈ d.fields)=>serv_of HSB.out HD.out hk hf)
          go_wp2_with fail
          go_loopg [5] d.fields.length (fun g i wx=>∃ q2:Nat,q2+g=d.fields.length∧i=.int .i64 q2∧Kp w [(gd,.cells #[.int .i64 d.kind,.string d.name,.slice Af d.faces.length kf,.slice Ax d.fields.length kx,.slice Ap d.parts.length kp,.slice Am d.params.length km] 37 (0,0)),(w.heap.size,.cells #[.slice (some ⟨bd,pd,none⟩) S.defs.length k,.string S.query,.string S.mutation] 24 (0,0))] wx∧Below wo.heap.size wo wx)
          case atStart=>exact ⟨0,by omega,rfl,K4.out,B4.out⟩
          case round =>
           obtain ⟨q2,hq2,rfl,hb,hb2⟩:=hrel
           obtain ⟨wm,rfl⟩:∃ x,x=wr:=⟨_,rfl⟩
           obtain ⟨wm,rfl⟩:∃ x,x=wm:=⟨_,rfl⟩
           have KF:=Hd hb
           have BF:=Hd hb2
           clear hb hb2 y0 y1 y2 y3 y4 y5
           obtain ⟨⟨y0,y1,y2,y3,y4,y5⟩,_⟩:=six_cells KF.out.h0
           obtain ⟨z0,z1,z2⟩:=three_cells KF.out.h1
           cases gk with
           | zero =>
             obtain rfl:q2=d.fields.length:=by omega
             go_wp2_with fail
             go_roundg g1
             case measure=>omega
             case rel=>exact ⟨q+1,by omega,by go_num,KF.out.tail⟩
           | succ g2 =>
             have hqm:q2 < d.fields.length:=by omega
             have hqm':(q2:Int) < (d.fields.length:Int):=by omega
             obtain ⟨f,hf⟩:∃ x,d.fields[q2]? = some x:=⟨_,List.getElem?_eq_getElem hqm⟩
             obtain ⟨bf,pf,cs,rfl,hlf,hc,hTf⟩:=rowOf_at 6 (fun _=>rfl) (HFX.out _ BF.out) hf
             obtain ⟨Aq,kq,Ad,kd,rfl,⟨_,htn⟩,⟨lq,hrq⟩,_,_⟩:=fld_cells hTf
             have f0:wm.cell? ⟨bf,pf+q2*6,none⟩=some (.string f.name):=hc 0 _ rfl
             have f1:=hc 1 _ rfl
             have f2:=hc 2 _ rfl
             have f3:=hc 3 _ rfl
             have f4:=hc 4 _ rfl
             have f5:=hc 5 _ rfl
             have HSF:=Hd (HSO.out f (List.mem_of_getElem? hf))
             have HTF:=Hd hTf
             have HRQ:=Hd hrq
             clear hf hc hTf hrq
             obtain ⟨x,hxe⟩:∃ x,(sourceT f.dirs f.name).1=x:=⟨_,rfl⟩
             have HSP:=Hd (split_facts HSF.out.1)
             have HOF:=Hd HSF.out.2
             rw [hxe] at HSP HOF
             clear hxe HSO HSF HFX HRQ
             have HHT:=Hd htn
             have KF2:Hid (Kp w [(gd,.cells #[.int .i64 d.kind,.string d.name,.slice Af d.faces.length kf,.slice (some ⟨bf,pf,none⟩) d.fields.length kx,.slice Ap d.parts.length kp,.slice Am d.params.length km] 37 (0,0)),(w.heap.size,.cells #[.slice (some ⟨bd,pd,none⟩) S.defs.length k,.string S.query,.string S.mutation] 24 (0,0))] wm):=Hd KF.out
             have hqf:q2 < d.fields.length:=hqm
             have S0:Hid (S11 w.heap.size gd bf (pf+q2*6) (.slice (some ⟨bd,pd,none⟩) S.defs.length k) (.string S.query) (.string S.mutation) (.string d.name) (.slice (some ⟨bf,pf,none⟩) d.fields.length kx) (.string f.name) (.slice Aq f.params.length kq) (.string f.tn) (.int .i64 f.tl) (.int .i64 f.tm) (.slice Ad f.dirs.length kd) wm):=Hd ⟨z0,z1,z2,y1,y3,f0,f1,f2,f3,f4,f5⟩
             have OF1:=Hd (fun (wx:World) (h:Below wm.heap.size wm wx)=>OF.out d.name f _ _ _ _ _ _ wx (KF2.out.next h).1 (TS.low (h.mono KF2.out.1.size) HTF.out))
             rw [HOF.out] at OF1
             clear HTF HOF
             go_upto_region 10 with fail
             clear f0 f1 f2 f3 f4 f5 y0 y1 y2 y3 y4 y5 z0 z1 z2
             go_cut [6,7] (fun px ok wx=>∃ gx,px=.pointer (some ⟨gx,0,none⟩)∧ok=.bool true∧Kp w [(gx,.cells #[.int .i64 x.how,.string x.table,.string x.col,.string x.arg,.string x.cmd] 51 (0,0)),(gd,.cells #[.int .i64 d.kind,.string d.name,.slice Af d.faces.length kf,.slice (some ⟨bf,pf,none⟩) d.fields.length kx,.slice Ap d.parts.length kp,.slice Am d.params.length km] 37 (0,0)),(w.heap.size,.cells #[.slice (some ⟨bd,pd,none⟩) S.defs.length k,.string S.query,.string S.mutation] 24 (0,0))] wx∧Below wm.heap.size wm wx∧S11 w.heap.size gd bf (pf+q2*6) (.slice (some ⟨bd,pd,none⟩) S.defs.length k) (.string S.query) (.string S.mutation) (.string d.name) (.slice (some ⟨bf,pf,none⟩) d.fields.length kx) (.string f.name) (.slice Aq f.params.length kq) (.string f.tn) (.int .i64 f.tl) (.int .i64 f.tm) (.slice Ad f.dirs.length kd) wx)
             case first =>
              have SD:=Hd (S0.out.next (Below.drew (Below.refl _ _)))
              have BD:Hid (Below wm.heap.size wm wm.drew):=Hd (Below.drew (Below.refl _ _))
              have KD:=Hd (KF2.out.next (Below.drew (Below.refl _ _)))
              generalize hwd:wm.drew=wd at SD BD KD
              refine wp_region_held_drew (S:=S11 w.heap.size gd bf (pf+q2*6) (.slice (some ⟨bd,pd,none⟩) S.defs.length k) (.string S.query) (.string S.mutation) (.string d.name) (.slice (some ⟨bf,pf,none⟩) d.fields.length kx) (.string f.name) (.slice Aq f.params.length kq) (.string f.tn) (.int .i64 f.tl) (.int .i64 f.tm) (.slice Ad f.dirs.length kd)) (by kernel_rfl) (by rw [hwd];exact SD.out) (fun hHeld=>?_)
              rw [hwd] at hHeld ⊢
              clear hwd
              refine zt 0 ?_;try simp only [Act.put,zgA,zgB,stT,stZ,stS]
              refine zt 1 ?_;try simp only [Act.put,zgA,zgB,zgC,stT,stZ,stS]
              refine zt 2 ?_;try simp only [Act.put,zgA,zgB,zgC,stT,stZ,stS]
              refine zt 3 ?_;try simp only [Act.put,zgA,zgB,zgC,stT,stZ,stS]
              refine zt 4 ?_;try simp only [Act.put,zgA,zgB,zgC,stT,stZ,stS]
              refine zt 5 ?_;try simp only [Act.put,zgA,zgB,zgC,stT,stZ,stS]
              refine zt 6 ?_;try simp only [Act.put,zgA,zgB,zgC,stT,stZ,stS]
              refine zt 7 ?_;try simp only [Act.put,zgA,zgB,zgC,stT,stZ,stS]
              refine wpAnyH_ready (rs:=[8,12]) (by kernel_rfl) (by simp) ?_
              refine AllReadyH.cons (o:=_) rfl (fun K hK=>?_) (AllReadyH.cons (o:=_) rfl (fun K hK=>?_) AllReadyH.nil)
              · go_simp
                refine (OF1.out _ BD.out).mono ?_
                rintro e w6 ⟨rfl,hb⟩
                have S6':=Hd (SD.out.next hb)
                have B6:=Hd (BD.out.trans (hb.mono BD.out.size))
                have K6:=Hd (KD.out.next hb)
                clear hb hHeld SD BD KD
                unfold bindV
                go_wp2_with fail
                refine hK.out _ _ S6'.out (fun hHeld=>?_)
                clear hK K
                try simp only [Act.put,zgA,zgB,zgC,stT,stZ,stS]
                refine zt 9 ?_;try simp only [Act.put,zgA,zgB,zgC,stT,stZ,stS]
                refine zt 10 ?_;try simp only [Act.put,zgA,zgB,zgC,stT,stZ,stS]
                refine zt 11 ?_;try simp only [Act.put,zgA,zgB,zgC,stT,stZ,stS]
                refine wpAnyH_ready (rs:=[12]) (by kernel_rfl) (by simp) ?_
                refine AllReadyH.cons (o:=_) rfl (fun K hK=>?_) AllReadyH.nil
                go_simp
                have K9:=Hd (K6.out.put (.cells #[.int .i64 0,.string ⟨#[]⟩,.string ⟨#[]⟩,.string ⟨#[]⟩,.string ⟨#[]⟩] 51))
                have S9:=Hd (S6'.out.next (dbelow_new w6 (.cells #[.int .i64 0,.string ⟨#[]⟩,.string ⟨#[]⟩,.string ⟨#[]⟩,.string ⟨#[]⟩] 51)))
                have B9:=Hd (B6.out.trans ((dbelow_new w6 (.cells #[.int .i64 0,.string ⟨#[]⟩,.string ⟨#[]⟩,.string ⟨#[]⟩,.string ⟨#[]⟩] 51)).mono B6.out.size))
                have L9:=Hd B6.out.size
                have N9:=Hd (s11_new S6'.out K6.out)
                generalize w6.alloc (.cells #[.int .i64 0,.string ⟨#[]⟩,.string ⟨#[]⟩,.string ⟨#[]⟩,.string ⟨#[]⟩] 51)=w9 at K9 S9 B9 ⊢
                generalize w6.heap.size=g9 at K9 L9 N9 ⊢
                clear hHeld S6' B6 K6
                refine hK.out _ _ S9.out (fun hHeld=>?_)
                clear hK K
                try simp only [Act.put,zgA,zgB,zgC,stT,stZ,stS]
                refine wpAnyH_ready (rs:=[13]) (by kernel_rfl) (by simp) ?_
                refine AllReadyH.cons (o:=_) rfl (fun K hK=>?_) AllReadyH.nil
                obtain ⟨u0,u1,u2,u3,u4,f4'⟩:=gvc K9.out.h0
                have f0':=f4' 0
                have f1':=f4' 1
                have f2':=f4' 2
                have f3':=f4' 3
                have f5':=f4' 4
                clear f4'
                go_simp
                have hgg:=K9.out.h0
                have SS:=s11_far (x0:=.int .i64 x.how) (x1:=.string x.table) (x2:=.string x.col) (x3:=.string x.arg) (x4:=.string x.cmd) S9.out N9.out
                refine hK.out _ _ SS (fun hHeld=>?_)
                clear hK K u0 u1 u2 u3 u4 f0' f1' f2' f3' f5'
                try simp only [Act.put,zgA,zgB,zgC,stT,stZ,stS]
                refine zt 14 ?_;try simp only [Act.put,zgA,zgB,zgC,stT,stZ,stS]
                refine wpAnyH_done (by kernel_rfl) ?_ _
                go_wp2_with fail
                go_meet
                exact ⟨_,rfl,rfl,kp_five K9.out N9.out (Nat.le_trans KF2.out.1.size L9.out),five_down B9.out L9.out,SS⟩
              · go_simp
                have K8:=Hd (KD.out.put (.cells #[.int .i64 0,.string ⟨#[]⟩,.string ⟨#[]⟩,.string ⟨#[]⟩,.string ⟨#[]⟩] 51))
                have S8:=Hd (SD.out.next (dbelow_new wd (.cells #[.int .i64 0,.string ⟨#[]⟩,.string ⟨#[]⟩,.string ⟨#[]⟩,.string ⟨#[]⟩] 51)))
                have B8:=Hd (BD.out.trans ((dbelow_new wd (.cells #[.int .i64 0,.string ⟨#[]⟩,.string ⟨#[]⟩,.string ⟨#[]⟩,.string ⟨#[]⟩] 51)).mono BD.out.size))
                have L9:=Hd BD.out.size
                have N9:=Hd (s11_new SD.out KD.out)
                generalize wd.alloc (.cells #[.int .i64 0,.string ⟨#[]⟩,.string ⟨#[]⟩,.string ⟨#[]⟩,.string ⟨#[]⟩] 51)=w8 at K8 S8 B8 ⊢
                generalize wd.heap.size=g9 at K8 L9 N9 ⊢
                clear hHeld SD BD KD
                refine hK.out _ _ S8.out (fun hHeld=>?_)
                clear hK K
                try simp only [Act.put,zgA,zgB,zgC,stT,stZ,stS]
                refine wpAnyH_ready (rs:=[8]) (by kernel_rfl) (by simp) ?_
                refine AllReadyH.cons (o:=_) rfl (fun K hK=>?_) AllReadyH.nil
                go_simp
                refine (OF1.out _ B8.out).mono ?_
                rintro e w6 ⟨rfl,hb⟩
                have S9:=Hd (S8.out.next hb)
                have B9:=Hd (B8.out.trans (hb.mono B8.out.size))
                have K9:=Hd (K8.out.next hb)
                clear hb hHeld S8 B8 K8
                unfold bindV
                go_wp2_with fail
                refine hK.out _ _ S9.out (fun hHeld=>?_)
                clear hK K
                try simp only [Act.put,zgA,zgB,zgC,stT,stZ,stS]
                refine zt 9 ?_;try simp only [Act.put,zgA,zgB,zgC,stT,stZ,stS]
                refine zt 10 ?_;try simp only [Act.put,zgA,zgB,zgC,stT,stZ,stS]
                refine zt 11 ?_;try simp only [Act.put,zgA,zgB,zgC,stT,stZ,stS]
                refine wpAnyH_ready (rs:=[13]) (by kernel_rfl) (by simp) ?_
                refine AllReadyH.cons (o:=_) rfl (fun K hK=>?_) AllReadyH.nil
                obtain ⟨u0,u1,u2,u3,u4,f4'⟩:=gvc K9.out.h0
                have f0':=f4' 0
                have f1':=f4' 1
                have f2':=f4' 2
                have f3':=f4' 3
                have f5':=f4' 4
                clear f4'
                go_simp
                have hgg:=K9.out.h0
                have SS:=s11_far (x0:=.int .i64 x.how) (x1:=.string x.table) (x2:=.string x.col) (x3:=.string x.arg) (x4:=.string x.cmd) S9.out N9.out
                refine hK.out _ _ SS (fun hHeld=>?_)
                clear hK K u0 u1 u2 u3 u4 f0' f1' f2' f3' f5'
                try simp only [Act.put,zgA,zgB,zgC,stT,stZ,stS]
                refine zt 14 ?_;try simp only [Act.put,zgA,zgB,zgC,stT,stZ,stS]
                refine wpAnyH_done (by kernel_rfl) ?_ _
                go_wp2_with fail
                go_meet
                exact ⟨_,rfl,rfl,kp_five K9.out N9.out (Nat.le_trans KF2.out.1.size L9.out),five_down B9.out L9.out,SS⟩
             case rest =>
              obtain ⟨gx,rfl,rfl,hk,hbw,hs⟩:=hcut
              have K7:=Hd hk
              have B7:=Hd hbw
              have S1:=Hd hs
              clear hk hbw hs S0 KF2 OF1
              obtain ⟨x0,x1,x2,x3,x4,_⟩:=gvc K7.out.h0
              obtain ⟨⟨y0,y1,y2,y3,y4,y5⟩,_⟩:=six_cells K7.out.h1
              obtain ⟨z0,z1,z2⟩:=three_cells K7.out.h2
              have HC:Hid (changesB S d.name=(!(S.mutation.toList == []) && (d.name.toList == S.mutation.toList))):=Hd rfl
              have h3:(x.how == 3)=changesB S d.name:=HSP.out.1
              have HS0:=Hd HSP.out.2.1
              have HS1:=Hd HSP.out.2.2
              generalize changesB S d.name=cb at HC h3
              go_upto_region 11 with fail
              go_cut [8] (fun c wx=>c=.bool cb∧wx=wc)
              case first =>
                cases em:(S.mutation.toList == []) with
                | true =>
                  go_wp2_with fail
                  go_meet
                  exact ⟨by rw [HC.out,em];rfl,rfl⟩
                | false =>
                  go_wp2_with fail
                  go_meet
                  exact ⟨by rw [HC.out,em];rfl,rfl⟩
              case rest =>
                obtain ⟨rfl,rfl⟩:=hcut
                go_upto_region 14 with fail
                clear x0 x1 x2 x3 x4 y0 y1 y2 y3 y4 y5 z0 z1 z2
                obtain ⟨lf,hlf⟩:∃ b,leafD S.defs f.tn=b:=⟨_,rfl⟩
                obtain ⟨co,hco⟩:∃ b,compD S.defs f.tn=b:=⟨_,rfl⟩
                have LF1:=Hd (fun (wx:World) (h:Below w.heap.size w wx)=>LF.out f.tn HHT.out wx h)
                have CO1:=Hd (fun (wx:World) (h:Below w.heap.size w wx)=>CO.out f.tn HHT.out wx h)
                rw [hlf] at LF1 HS0
                rw [hco] at CO1 HS1
                clear hlf hco
                cases h0:(x.how == 0) with
                | true =>
                  have hl1:=HS0.out h0
                  subst hl1
                  have h1:(x.how == 1)=false:=by rw [eq_of_beq h0];rfl
                  have h2:(x.how == 2)=false:=by rw [eq_of_beq h0];rfl
                  have SD:=Hd (show S7 w.heap.size gd gx bf (pf+q2*6) (.slice (some ⟨bd,pd,none⟩) S.defs.length k) (.string S.query) (.string S.mutation) (.slice (some ⟨bf,pf,none⟩) d.fields.length kx) (.int .i64 x.how) (.string x.table) (.string f.tn) wc from by
                    obtain ⟨a0,a1,a2,_,a4,_,_,a7,_⟩:=S1.out
                    obtain ⟨x0,x1,_⟩:=gvc K7.out.h0
                    exact ⟨a0,a1,a2,a4,x0,x1,a7⟩)
                  have SD:=Hd (SD.out.next (Below.drew (Below.refl _ _)))
                  have KD:=Hd (K7.out.next (Below.drew (Below.refl _ _)))
                  have BD:=Hd (B7.out.trans ((Below.drew (Below.refl wc.heap.size wc)).mono B7.out.size))
                  generalize hwd:wc.drew=wd at SD KD BD
                  refine wp_region_held_drew (S:=S7 w.heap.size gd gx bf (pf+q2*6) (.slice (some ⟨bd,pd,none⟩) S.defs.length k) (.string S.query) (.string S.mutation) (.slice (some ⟨bf,pf,none⟩) d.fields.length kx) (.int .i64 x.how) (.string x.table) (.string f.tn)) (by kernel_rfl) (by rw [hwd];exact SD.out) (fun hHeld=>?_)
                  rw [hwd] at hHeld ⊢
                  clear hwd S1 K7 B7
                  refine zt 0 ?_;try simp only [Act.put,zgA,zgB,stT,stZ,stS]
                  refine zt 1 ?_;try simp only [Act.put,zgA,zgB,zgC,stT,stZ,stS]
                  refine zt 2 ?_;try simp only [Act.put,zgA,zgB,zgC,stT,stZ,stS]
                  refine zt 3 ?_;try simp only [Act.put,zgA,zgB,zgC,stT,stZ,stS]
                  refine zt 4 ?_;try simp only [Act.put,zgA,zgB,zgC,stT,stZ,stS]
                  refine zt 5 ?_;try simp only [Act.put,zgA,zgB,zgC,stT,stZ,stS]
                  refine zt 6 ?_;try simp only [Act.put,zgA,zgB,zgC,stT,stZ,stS]
                  refine zt 7 ?_;try simp only [Act.put,zgA,zgB,zgC,stT,stZ,stS]
                  refine zt 8 ?_;try simp only [Act.put,zgA,zgB,zgC,stT,stZ,stS]
                  refine zt 9 ?_;try simp only [Act.put,zgA,zgB,zgC,stT,stZ,stS]
                  refine zt 10 ?_;try simp only [Act.put,zgA,zgB,zgC,stT,stZ,stS]
                  refine zt 11 ?_;try simp only [Act.put,zgA,zgB,zgC,stT,stZ,stS]
                  refine wpAnyH_ready (rs:=[12]) (by kernel_rfl) (by simp) ?_
                  refine AllReadyH.cons (o:=_) rfl (fun K hK=>?_) AllReadyH.nil
                  go_simp
                  refine (LF1.out _ KD.out.1).mono ?_
                  rintro e w9 ⟨rfl,hb⟩
                  have SE:=Hd (SD.out.next hb)
                  have KE:=Hd (KD.out.next hb)
                  have BE:=Hd (BD.out.trans (hb.mono BD.out.size))
                  clear hb SD KD BD hHeld
                  go_wp2_with fail
                  refine hK.out _ _ SE.out (fun hHeld=>?_)
                  clear hK K
                  try simp only [Act.put,zgA,zgB,zgC,stT,stZ,stS]
                  refine zt 13 ?_;try simp only [Act.put,zgA,zgB,zgC,stT,stZ,stS]
                  refine zt 14 ?_;try simp only [Act.put,zgA,zgB,zgC,stT,stZ,stS]
                  refine zt 15 ?_;try simp only [Act.put,zgA,zgB,zgC,stT,stZ,stS]
                  refine zt 16 ?_;try simp only [Act.put,zgA,zgB,zgC,stT,stZ,stS]
                  refine zt 17 ?_;try simp only [Act.put,zgA,zgB,zgC,stT,stZ,stS]
                  refine zt 18 ?_;try simp only [Act.put,zgA,zgB,zgC,stT,stZ,stS]
                  refine zt 19 ?_;try simp only [Act.put,zgA,zgB,zgC,stT,stZ,stS]
                  refine zt 20 ?_;try simp only [Act.put,zgA,zgB,zgC,stT,stZ,stS]
                  refine zt 21 ?_;try simp only [Act.put,zgA,zgB,zgC,stT,stZ,stS]
                  refine zt 22 ?_;try simp only [Act.put,zgA,zgB,zgC,stT,stZ,stS]
                  refine zt 23 ?_;try simp only [Act.put,zgA,zgB,zgC,stT,stZ,stS]
                  refine zt 24 ?_;try simp only [Act.put,zgA,zgB,zgC,stT,stZ,stS]
                  refine zu 25 ?_;try simp only [Act.put,zgA,zgB,zgC,stT,stZ,stS]
                  refine zu 26 ?_;try simp only [Act.put,zgA,zgB,zgC,stT,stZ,stS]
                  refine zu 27 ?_;try simp only [Act.put,zgA,zgB,zgC,stT,stZ,stS]
                  refine zu 28 ?_;try simp only [Act.put,zgA,zgB,zgC,stT,stZ,stS]
                  refine zu 29 ?_;try simp only [Act.put,zgA,zgB,zgC,stT,stZ,stS]
                  refine zu 30 ?_;try simp only [Act.put,zgA,zgB,zgC,stT,stZ,stS]
                  refine zu 31 ?_;try simp only [Act.put,zgA,zgB,zgC,stT,stZ,stS]
                  refine zu 32 ?_;try simp only [Act.put,zgA,zgB,zgC,stT,stZ,stS]
                  refine zu 33 ?_;try simp only [Act.put,zgA,zgB,zgC,stT,stZ,stS]
                  refine zu 34 ?_;try simp only [Act.put,zgA,zgB,zgC,stT,stZ,stS]
                  refine zu 35 ?_;try simp only [Act.put,zgA,zgB,zgC,stT,stZ,stS]
                  refine zu 36 ?_;try simp only [Act.put,zgA,zgB,zgC,stT,stZ,stS]
                  refine zu 37 ?_;try simp only [Act.put,zgA,zgB,zgC,stT,stZ,stS]
                  refine zu 38 ?_;try simp only [Act.put,zgA,zgB,zgC,stT,stZ,stS]
                  refine zu 39 ?_;try simp only [Act.put,zgA,zgB,zgC,stT,stZ,stS]
                  refine zt 40 ?_;try simp only [Act.put,zgA,zgB,zgC,stT,stZ,stS]
                  refine zt 41 ?_;try simp only [Act.put,zgA,zgB,zgC,stT,stZ,stS]
                  refine wpAnyH_done (by kernel_rfl) ?_ _
                  clear hHeld
                  go_wp2_with fail
                  go_roundg g2
                  case measure=>omega
                  case rel=>exact ⟨q2+1,by omega,by go_num,KE.out.tail,BF.out.trans (BE.out.mono BF.out.size)⟩
                | false =>
                  cases h1:(x.how == 1) with
                  | true =>
                    have hl1:=HS1.out (by rw [h1];rfl)
                    have htb:=hl1.2
                    have hl1:=hl1.1
                    subst hl1
                    have h2:(x.how == 2)=false:=by rw [eq_of_beq h1];rfl
                    have SD:=Hd (show S7 w.heap.size gd gx bf (pf+q2*6) (.slice (some ⟨bd,pd,none⟩) S.defs.length k) (.string S.query) (.string S.mutation) (.slice (some ⟨bf,pf,none⟩) d.fields.length kx) (.int .i64 x.how) (.string x.table) (.string f.tn) wc from by
                      obtain ⟨a0,a1,a2,_,a4,_,_,a7,_⟩:=S1.out
                      obtain ⟨x0,x1,_⟩:=gvc K7.out.h0
                      exact ⟨a0,a1,a2,a4,x0,x1,a7⟩)
                    have SD:=Hd (SD.out.next (Below.drew (Below.refl _ _)))
                    have KD:=Hd (K7.out.next (Below.drew (Below.refl _ _)))
                    have BD:=Hd (B7.out.trans ((Below.drew (Below.refl wc.heap.size wc)).mono B7.out.size))
                    generalize hwd:wc.drew=wd at SD KD BD
                    refine wp_region_held_drew (S:=S7 w.heap.size gd gx bf (pf+q2*6) (.slice (some ⟨bd,pd,none⟩) S.defs.length k) (.string S.query) (.string S.mutation) (.slice (some ⟨bf,pf,none⟩) d.fields.length kx) (.int .i64 x.how) (.string x.table) (.string f.tn)) (by kernel_rfl) (by rw [hwd];exact SD.out) (fun hHeld=>?_)
                    rw [hwd] at hHeld ⊢
                    clear hwd S1 K7 B7
                    refine zt 0 ?_;try simp only [Act.put,zgA,zgB,stT,stZ,stS]
                    refine zt 1 ?_;try simp only [Act.put,zgA,zgB,zgC,stT,stZ,stS]
                    refine zt 2 ?_;try simp only [Act.put,zgA,zgB,zgC,stT,stZ,stS]
                    refine zt 3 ?_;try simp only [Act.put,zgA,zgB,zgC,stT,stZ,stS]
                    refine zu 4 ?_;try simp only [Act.put,zgA,zgB,zgC,stT,stZ,stS]
                    refine zu 5 ?_;try simp only [Act.put,zgA,zgB,zgC,stT,stZ,stS]
                    refine zu 6 ?_;try simp only [Act.put,zgA,zgB,zgC,stT,stZ,stS]
                    refine zu 7 ?_;try simp only [Act.put,zgA,zgB,zgC,stT,stZ,stS]
                    refine zu 8 ?_;try simp only [Act.put,zgA,zgB,zgC,stT,stZ,stS]
                    refine zu 9 ?_;try simp only [Act.put,zgA,zgB,zgC,stT,stZ,stS]
                    refine zu 10 ?_;try simp only [Act.put,zgA,zgB,zgC,stT,stZ,stS]
                    refine zu 11 ?_;try simp only [Act.put,zgA,zgB,zgC,stT,stZ,stS]
                    refine zu 12 ?_;try simp only [Act.put,zgA,zgB,zgC,stT,stZ,stS]
                    refine zu 13 ?_;try simp only [Act.put,zgA,zgB,zgC,stT,stZ,stS]
                    refine zt 14 ?_;try simp only [Act.put,zgA,zgB,zgC,stT,stZ,stS]
                    refine zt 15 ?_;try simp only [Act.put,zgA,zgB,zgC,stT,stZ,stS]
                    refine zt 16 ?_;try simp only [Act.put,zgA,zgB,zgC,stT,stZ,stS]
                    refine zt 17 ?_;try simp only [Act.put,zgA,zgB,zgC,stT,stZ,stS]
                    refine zt 18 ?_;try simp only [Act.put,zgA,zgB,zgC,stT,stZ,stS]
                    refine zt 19 ?_;try simp only [Act.put,zgA,zgB,zgC,stT,stZ,stS]
                    refine zu 20 ?_;try simp only [Act.put,zgA,zgB,zgC,stT,stZ,stS]
                    refine zu 21 ?_;try simp only [Act.put,zgA,zgB,zgC,stT,stZ,stS]
                    refine zu 22 ?_;try simp only [Act.put,zgA,zgB,zgC,stT,stZ,stS]
                    refine zt 23 ?_;try simp only [Act.put,zgA,zgB,zgC,stT,stZ,stS]
                    refine zt 24 ?_;try simp only [Act.put,zgA,zgB,zgC,stT,stZ,stS]
                    refine zt 25 ?_;try simp only [Act.put,zgA,zgB,zgC,stT,stZ,stS]
                    refine zt 26 ?_;try simp only [Act.put,zgA,zgB,zgC,stT,stZ,stS]
                    refine zt 27 ?_;try simp only [Act.put,zgA,zgB,zgC,stT,stZ,stS]
                    refine zt 28 ?_;try simp only [Act.put,zgA,zgB,zgC,stT,stZ,stS]
                    refine zt 29 ?_;try simp only [Act.put,zgA,zgB,zgC,stT,stZ,stS]
                    refine zt 30 ?_;try simp only [Act.put,zgA,zgB,zgC,stT,stZ,stS]
                    refine zt 31 ?_;try simp only [Act.put,zgA,zgB,zgC,stT,stZ,stS]
                    refine zt 32 ?_;try simp only [Act.put,zgA,zgB,zgC,stT,stZ,stS]
                    refine wpAnyH_ready (rs:=[33]) (by kernel_rfl) (by simp) ?_
                    refine AllReadyH.cons (o:=_) rfl (fun K hK=>?_) AllReadyH.nil
                    go_simp
                    refine (CO1.out _ KD.out.1).mono ?_
                    rintro e w9 ⟨rfl,hb⟩
                    have SE:=Hd (SD.out.next hb)
                    have KE:=Hd (KD.out.next hb)
                    have BE:=Hd (BD.out.trans (hb.mono BD.out.size))
                    clear hb SD KD BD hHeld
                    go_wp2_with fail
                    refine hK.out _ _ SE.out (fun hHeld=>?_)
                    clear hK K
                    try simp only [Act.put,zgA,zgB,zgC,stT,stZ,stS]
                    refine zt 34 ?_;try simp only [Act.put,zgA,zgB,zgC,stT,stZ,stS]
                    refine zt 35 ?_;try simp only [Act.put,zgA,zgB,zgC,stT,stZ,stS]
                    refine zt 36 ?_;try simp only [Act.put,zgA,zgB,zgC,stT,stZ,stS]
                    refine zt 37 ?_;try simp only [Act.put,zgA,zgB,zgC,stT,stZ,stS]
                    refine zt 38 ?_;try simp only [Act.put,zgA,zgB,zgC,stT,stZ,stS]
                    refine zt 39 ?_;try simp only [Act.put,zgA,zgB,zgC,stT,stZ,stS]
                    refine zt 40 ?_;try simp only [Act.put,zgA,zgB,zgC,stT,stZ,stS]
                    refine zt 41 ?_;try simp only [Act.put,zgA,zgB,zgC,stT,stZ,stS]
                    refine wpAnyH_done (by kernel_rfl) ?_ _
                    clear hHeld
                    go_wp2_with fail
                    go_roundg g2
                    case measure=>omega
                    case rel=>exact ⟨q2+1,by omega,by go_num,KE.out.tail,BF.out.trans (BE.out.mono BF.out.size)⟩
                  | false =>
                    cases h2:(x.how == 2) with
                    | true =>
                      have hl1:=HS1.out (by rw [h2,Bool.or_true])
                      have htb:=hl1.2
                      have hl1:=hl1.1
                      subst hl1
                      have SD:=Hd (show S7 w.heap.size gd gx bf (pf+q2*6) (.slice (some ⟨bd,pd,none⟩) S.defs.length k) (.string S.query) (.string S.mutation) (.slice (some ⟨bf,pf,none⟩) d.fields.length kx) (.int .i64 x.how) (.string x.table) (.string f.tn) wc from by
                        obtain ⟨a0,a1,a2,_,a4,_,_,a7,_⟩:=S1.out
                        obtain ⟨x0,x1,_⟩:=gvc K7.out.h0
                        exact ⟨a0,a1,a2,a4,x0,x1,a7⟩)
                      have SD:=Hd (SD.out.next (Below.drew (Below.refl _ _)))
                      have KD:=Hd (K7.out.next (Below.drew (Below.refl _ _)))
                      have BD:=Hd (B7.out.trans ((Below.drew (Below.refl wc.heap.size wc)).mono B7.out.size))
                      generalize hwd:wc.drew=wd at SD KD BD
                      refine wp_region_held_drew (S:=S7 w.heap.size gd gx bf (pf+q2*6) (.slice (some ⟨bd,pd,none⟩) S.defs.length k) (.string S.query) (.string S.mutation) (.slice (some ⟨bf,pf,none⟩) d.fields.length kx) (.int .i64 x.how) (.string x.table) (.string f.tn)) (by kernel_rfl) (by rw [hwd];exact SD.out) (fun hHeld=>?_)
                      rw [hwd] at hHeld ⊢
                      clear hwd S1 K7 B7
                      refine zt 0 ?_;try simp only [Act.put,zgA,zgB,stT,stZ,stS]
                      refine zt 1 ?_;try simp only [Act.put,zgA,zgB,zgC,stT,stZ,stS]
                      refine zt 2 ?_;try simp only [Act.put,zgA,zgB,zgC,stT,stZ,stS]
                      refine zt 3 ?_;try simp only [Act.put,zgA,zgB,zgC,stT,stZ,stS]
                      refine zu 4 ?_;try simp only [Act.put,zgA,zgB,zgC,stT,stZ,stS]
                      refine zu 5 ?_;try simp only [Act.put,zgA,zgB,zgC,stT,stZ,stS]
                      refine zu 6 ?_;try simp only [Act.put,zgA,zgB,zgC,stT,stZ,stS]
                      refine zu 7 ?_;try simp only [Act.put,zgA,zgB,zgC,stT,stZ,stS]
                      refine zu 8 ?_;try simp only [Act.put,zgA,zgB,zgC,stT,stZ,stS]
                      refine zu 9 ?_;try simp only [Act.put,zgA,zgB,zgC,stT,stZ,stS]
                      refine zu 10 ?_;try simp only [Act.put,zgA,zgB,zgC,stT,stZ,stS]
                      refine zu 11 ?_;try simp only [Act.put,zgA,zgB,zgC,stT,stZ,stS]
                      refine zu 12 ?_;try simp only [Act.put,zgA,zgB,zgC,stT,stZ,stS]
                      refine zu 13 ?_;try simp only [Act.put,zgA,zgB,zgC,stT,stZ,stS]
                      refine zt 14 ?_;try simp only [Act.put,zgA,zgB,zgC,stT,stZ,stS]
                      refine zt 15 ?_;try simp only [Act.put,zgA,zgB,zgC,stT,stZ,stS]
                      refine zt 16 ?_;try simp only [Act.put,zgA,zgB,zgC,stT,stZ,stS]
                      refine zt 17 ?_;try simp only [Act.put,zgA,zgB,zgC,stT,stZ,stS]
                      refine zt 18 ?_;try simp only [Act.put,zgA,zgB,zgC,stT,stZ,stS]
                      refine zt 19 ?_;try simp only [Act.put,zgA,zgB,zgC,stT,stZ,stS]
                      refine zt 20 ?_;try simp only [Act.put,zgA,zgB,zgC,stT,stZ,stS]
                      refine zt 21 ?_;try simp only [Act.put,zgA,zgB,zgC,stT,stZ,stS]
                      refine zt 22 ?_;try simp only [Act.put,zgA,zgB,zgC,stT,stZ,stS]
                      refine zt 23 ?_;try simp only [Act.put,zgA,zgB,zgC,stT,stZ,stS]
                      refine zt 24 ?_;try simp only [Act.put,zgA,zgB,zgC,stT,stZ,stS]
                      refine zt 25 ?_;try simp only [Act.put,zgA,zgB,zgC,stT,stZ,stS]
                      refine zt 26 ?_;try simp only [Act.put,zgA,zgB,zgC,stT,stZ,stS]
                      refine zt 27 ?_;try simp only [Act.put,zgA,zgB,zgC,stT,stZ,stS]
                      refine zt 28 ?_;try simp only [Act.put,zgA,zgB,zgC,stT,stZ,stS]
                      refine zt 29 ?_;try simp only [Act.put,zgA,zgB,zgC,stT,stZ,stS]
                      refine zt 30 ?_;try simp only [Act.put,zgA,zgB,zgC,stT,stZ,stS]
                      refine zt 31 ?_;try simp only [Act.put,zgA,zgB,zgC,stT,stZ,stS]
                      refine zt 32 ?_;try simp only [Act.put,zgA,zgB,zgC,stT,stZ,stS]
                      refine wpAnyH_ready (rs:=[33]) (by kernel_rfl) (by simp) ?_
                      refine AllReadyH.cons (o:=_) rfl (fun K hK=>?_) AllReadyH.nil
                      go_simp
                      refine (CO1.out _ KD.out.1).mono ?_
                      rintro e w9 ⟨rfl,hb⟩
                      have SE:=Hd (SD.out.next hb)
                      have KE:=Hd (KD.out.next hb)
                      have BE:=Hd (BD.out.trans (hb.mono BD.out.size))
                      clear hb SD KD BD hHeld
                      go_wp2_with fail
                      refine hK.out _ _ SE.out (fun hHeld=>?_)
                      clear hK K
                      try simp only [Act.put,zgA,zgB,zgC,stT,stZ,stS]
                      refine zt 34 ?_;try simp only [Act.put,zgA,zgB,zgC,stT,stZ,stS]
                      refine zt 35 ?_;try simp only [Act.put,zgA,zgB,zgC,stT,stZ,stS]
                      refine zt 36 ?_;try simp only [Act.put,zgA,zgB,zgC,stT,stZ,stS]
                      refine zt 37 ?_;try simp only [Act.put,zgA,zgB,zgC,stT,stZ,stS]
                      refine zt 38 ?_;try simp only [Act.put,zgA,zgB,zgC,stT,stZ,stS]
                      refine zt 39 ?_;try simp only [Act.put,zgA,zgB,zgC,stT,stZ,stS]
                      refine zt 40 ?_;try simp only [Act.put,zgA,zgB,zgC,stT,stZ,stS]
                      refine zt 41 ?_;try simp only [Act.put,zgA,zgB,zgC,stT,stZ,stS]
                      refine wpAnyH_done (by kernel_rfl) ?_ _
                      clear hHeld
                      go_wp2_with fail
                      go_roundg g2
                      case measure=>omega
                      case rel=>exact ⟨q2+1,by omega,by go_num,KE.out.tail,BF.out.trans (BE.out.mono BF.out.size)⟩
                    | false =>
                      have SD:=Hd (show S7 w.heap.size gd gx bf (pf+q2*6) (.slice (some ⟨bd,pd,none⟩) S.defs.length k) (.string S.query) (.string S.mutation) (.slice (some ⟨bf,pf,none⟩) d.fields.length kx) (.int .i64 x.how) (.string x.table) (.string f.tn) wc from by
                        obtain ⟨a0,a1,a2,_,a4,_,_,a7,_⟩:=S1.out
                        obtain ⟨x0,x1,_⟩:=gvc K7.out.h0
                        exact ⟨a0,a1,a2,a4,x0,x1,a7⟩)
                      have SD:=Hd (SD.out.next (Below.drew (Below.refl _ _)))
                      have KD:=Hd (K7.out.next (Below.drew (Below.refl _ _)))
                      have BD:=Hd (B7.out.trans ((Below.drew (Below.refl wc.heap.size wc)).mono B7.out.size))
                      generalize hwd:wc.drew=wd at SD KD BD
                      refine wp_region_held_drew (S:=S7 w.heap.size gd gx bf (pf+q2*6) (.slice (some ⟨bd,pd,none⟩) S.defs.length k) (.string S.query) (.string S.mutation) (.slice (some ⟨bf,pf,none⟩) d.fields.length kx) (.int .i64 x.how) (.string x.table) (.string f.tn)) (by kernel_rfl) (by rw [hwd];exact SD.out) (fun hHeld=>?_)
                      rw [hwd] at hHeld ⊢
                      clear hwd S1 K7 B7
                      refine zt 0 ?_;try simp only [Act.put,zgA,zgB,stT,stZ,stS]
                      refine zt 1 ?_;try simp only [Act.put,zgA,zgB,zgC,stT,stZ,stS]
                      refine zt 2 ?_;try simp only [Act.put,zgA,zgB,zgC,stT,stZ,stS]
                      refine zt 3 ?_;try simp only [Act.put,zgA,zgB,zgC,stT,stZ,stS]
                      refine zu 4 ?_;try simp only [Act.put,zgA,zgB,zgC,stT,stZ,stS]
                      refine zu 5 ?_;try simp only [Act.put,zgA,zgB,zgC,stT,stZ,stS]
                      refine zu 6 ?_;try simp only [Act.put,zgA,zgB,zgC,stT,stZ,stS]
                      refine zu 7 ?_;try simp only [Act.put,zgA,zgB,zgC,stT,stZ,stS]
                      refine zu 8 ?_;try simp only [Act.put,zgA,zgB,zgC,stT,stZ,stS]
                      refine zu 9 ?_;try simp only [Act.put,zgA,zgB,zgC,stT,stZ,stS]
                      refine zu 10 ?_;try simp only [Act.put,zgA,zgB,zgC,stT,stZ,stS]
                      refine zu 11 ?_;try simp only [Act.put,zgA,zgB,zgC,stT,stZ,stS]
                      refine zu 12 ?_;try simp only [Act.put,zgA,zgB,zgC,stT,stZ,stS]
                      refine zu 13 ?_;try simp only [Act.put,zgA,zgB,zgC,stT,stZ,stS]
                      refine zt 14 ?_;try simp only [Act.put,zgA,zgB,zgC,stT,stZ,stS]
                      refine zt 15 ?_;try simp only [Act.put,zgA,zgB,zgC,stT,stZ,stS]
                      refine zt 16 ?_;try simp only [Act.put,zgA,zgB,zgC,stT,stZ,stS]
                      refine zt 17 ?_;try simp only [Act.put,zgA,zgB,zgC,stT,stZ,stS]
                      refine zt 18 ?_;try simp only [Act.put,zgA,zgB,zgC,stT,stZ,stS]
                      refine zt 19 ?_;try simp only [Act.put,zgA,zgB,zgC,stT,stZ,stS]
                      refine zt 20 ?_;try simp only [Act.put,zgA,zgB,zgC,stT,stZ,stS]
                      refine zt 21 ?_;try simp only [Act.put,zgA,zgB,zgC,stT,stZ,stS]
                      refine zt 22 ?_;try simp only [Act.put,zgA,zgB,zgC,stT,stZ,stS]
                      refine zt 23 ?_;try simp only [Act.put,zgA,zgB,zgC,stT,stZ,stS]
                      refine zt 24 ?_;try simp only [Act.put,zgA,zgB,zgC,stT,stZ,stS]
                      refine zu 25 ?_;try simp only [Act.put,zgA,zgB,zgC,stT,stZ,stS]
                      refine zu 26 ?_;try simp only [Act.put,zgA,zgB,zgC,stT,stZ,stS]
                      refine zu 27 ?_;try simp only [Act.put,zgA,zgB,zgC,stT,stZ,stS]
                      refine zu 28 ?_;try simp only [Act.put,zgA,zgB,zgC,stT,stZ,stS]
                      refine zu 29 ?_;try simp only [Act.put,zgA,zgB,zgC,stT,stZ,stS]
                      refine zu 30 ?_;try simp only [Act.put,zgA,zgB,zgC,stT,stZ,stS]
                      refine zu 31 ?_;try simp only [Act.put,zgA,zgB,zgC,stT,stZ,stS]
                      refine zu 32 ?_;try simp only [Act.put,zgA,zgB,zgC,stT,stZ,stS]
                      refine zu 33 ?_;try simp only [Act.put,zgA,zgB,zgC,stT,stZ,stS]
                      refine zu 34 ?_;try simp only [Act.put,zgA,zgB,zgC,stT,stZ,stS]
                      refine zu 35 ?_;try simp only [Act.put,zgA,zgB,zgC,stT,stZ,stS]
                      refine zu 36 ?_;try simp only [Act.put,zgA,zgB,zgC,stT,stZ,stS]
                      refine zu 37 ?_;try simp only [Act.put,zgA,zgB,zgC,stT,stZ,stS]
                      refine zu 38 ?_;try simp only [Act.put,zgA,zgB,zgC,stT,stZ,stS]
                      refine zu 39 ?_;try simp only [Act.put,zgA,zgB,zgC,stT,stZ,stS]
                      refine zt 40 ?_;try simp only [Act.put,zgA,zgB,zgC,stT,stZ,stS]
                      refine zt 41 ?_;try simp only [Act.put,zgA,zgB,zgC,stT,stZ,stS]
                      refine wpAnyH_done (by kernel_rfl) ?_ _
                      clear hHeld
                      go_wp2_with fail
                      go_roundg g2
                      case measure=>omega
                      case rel=>exact ⟨q2+1,by omega,by go_num,KD.out.tail,BF.out.trans (BD.out.mono BF.out.size)⟩
end Go.Proofs.YtaekdfcpbepepaaGreatDoor.LBSplits
