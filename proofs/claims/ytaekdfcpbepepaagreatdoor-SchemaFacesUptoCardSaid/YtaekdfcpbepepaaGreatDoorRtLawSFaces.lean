/- The walk of the law SchemaFaces. (gen_faces.py wrote it.) -/
import Derived.Test.YtaekdfcpbepepaaGreatDoorQt45
set_option maxRecDepth 100000
set_option maxHeartbeats 8000000
namespace Go.Proofs.YtaekdfcpbepepaaGreatDoor.LSFaces
open Go.RowKit
def QL (lo:Nat) (wz:World) (cs:List (Nat × Nat × Value)) (W:World):Prop:=(∀ p,p ∈ cs→W.cell? ⟨p.1,p.2.1,none⟩=some p.2.2)∧Below lo wz W
theorem QL.next {lo:Nat} {wz W W':World} {cs:List (Nat × Nat × Value)} (h:QL lo wz cs W) (hl:∀ p,p ∈ cs→p.1 < lo) (hb:Below lo W W'):QL lo wz cs W':=
 ⟨fun p hp=>(hb.block _ (hl p hp) |> fun e=>(World.cell?_of_block (a:=⟨p.1,p.2.1,none⟩) e)).trans (h.1 p hp),h.2.trans hb⟩
theorem below_at {lo:Nat} {w w':World} (h:w.heap.size≤lo) (hb:Below lo w w'):Below w.heap.size w w':=hb.mono h
theorem q5_written {lo:Nat} {wz W:World} {a1 b1 a2 b2 a3 b3 a4 b4 a5 b5:Nat} {v1 v2 v3 v4 v5:Value} (h:QL lo wz [(a1,b1,v1),(a2,b2,v2),(a3,b3,v3),(a4,b4,v4),(a5,b5,v5)] W) :
  W.cell? ⟨a1,b1,none⟩=some v1∧W.cell? ⟨a2,b2,none⟩=some v2∧W.cell? ⟨a3,b3,none⟩=some v3∧W.cell? ⟨a4,b4,none⟩=some v4∧W.cell? ⟨a5,b5,none⟩=some v5∧QL lo wz [(a1,b1,v1),(a2,b2,v2),(a3,b3,v3),(a4,b4,v4),(a5,b5,v5)] W:=
 ⟨h.1 (a1,b1,v1) (by simp),h.1 (a2,b2,v2) (by simp),h.1 (a3,b3,v3) (by simp),h.1 (a4,b4,v4) (by simp),h.1 (a5,b5,v5) (by simp),h⟩
theorem q5_held {lo:Nat} {wz W:World} {cs:List (Nat × Nat × Value)} {p1 p2 p3 p4 p5:Prop} (h:p1∧p2∧p3∧p4∧p5∧QL lo wz cs W):Below lo wz W:=h.2.2.2.2.2.2
theorem q5_last {lo:Nat} {wz W:World} {cs:List (Nat × Nat × Value)} {p1 p2 p3 p4 p5:Prop} (h:p1∧p2∧p3∧p4∧p5∧QL lo wz cs W):QL lo wz cs W:=h.2.2.2.2.2
theorem q6_written {lo:Nat} {wz W:World} {a1 b1 a2 b2 a3 b3 a4 b4 a5 b5 a6 b6:Nat} {v1 v2 v3 v4 v5 v6:Value} (h:QL lo wz [(a1,b1,v1),(a2,b2,v2),(a3,b3,v3),(a4,b4,v4),(a5,b5,v5),(a6,b6,v6)] W) :
  W.cell? ⟨a1,b1,none⟩=some v1∧W.cell? ⟨a2,b2,none⟩=some v2∧W.cell? ⟨a3,b3,none⟩=some v3∧W.cell? ⟨a4,b4,none⟩=some v4∧W.cell? ⟨a5,b5,none⟩=some v5∧W.cell? ⟨a6,b6,none⟩=some v6∧QL lo wz [(a1,b1,v1),(a2,b2,v2),(a3,b3,v3),(a4,b4,v4),(a5,b5,v5),(a6,b6,v6)] W:=
 ⟨h.1 (a1,b1,v1) (by simp),h.1 (a2,b2,v2) (by simp),h.1 (a3,b3,v3) (by simp),h.1 (a4,b4,v4) (by simp),h.1 (a5,b5,v5) (by simp),h.1 (a6,b6,v6) (by simp),h⟩
theorem q6_held {lo:Nat} {wz W:World} {cs:List (Nat × Nat × Value)} {p1 p2 p3 p4 p5 p6:Prop} (h:p1∧p2∧p3∧p4∧p5∧p6∧QL lo wz cs W):Below lo wz W:=h.2.2.2.2.2.2.2
theorem q6_last {lo:Nat} {wz W:World} {cs:List (Nat × Nat × Value)} {p1 p2 p3 p4 p5 p6:Prop} (h:p1∧p2∧p3∧p4∧p5∧p6∧QL lo wz cs W):QL lo wz cs W:=h.2.2.2.2.2.2
theorem qt_written {lo:Nat} {wz W:World} {a1 b1 a2 b2 a3 b3 a4 b4 a5 b5 a6 b6 a7 b7 a8 b8 a9 b9 a10 b10:Nat} {v1 v2 v3 v4 v5 v6 v7 v8 v9 v10:Value} (h:QL lo wz [(a1,b1,v1),(a2,b2,v2),(a3,b3,v3),(a4,b4,v4),(a5,b5,v5),(a6,b6,v6),(a7,b7,v7),(a8,b8,v8),(a9,b9,v9),(a10,b10,v10)] W) :
  W.cell? ⟨a1,b1,none⟩=some v1∧W.cell? ⟨a2,b2,none⟩=some v2∧W.cell? ⟨a3,b3,none⟩=some v3∧W.cell? ⟨a4,b4,none⟩=some v4∧W.cell? ⟨a5,b5,none⟩=some v5∧W.cell? ⟨a6,b6,none⟩=some v6∧W.cell? ⟨a7,b7,none⟩=some v7∧W.cell? ⟨a8,b8,none⟩=some v8∧W.cell? ⟨a9,b9,none⟩=some v9∧W.cell? ⟨a10,b10,none⟩=some v10∧QL lo wz [(a1,b1,v1),(a2,b2,v2),(a3,b3,v3),(a4,b4,v4),(a5,b5,v5),(a6,b6,v6),(a7,b7,v7),(a8,b8,v8),(a9,b9,v9),(a10,b10,v10)] W:=
 ⟨h.1 (a1,b1,v1) (by simp),h.1 (a2,b2,v2) (by simp),h.1 (a3,b3,v3) (by simp),h.1 (a4,b4,v4) (by simp),h.1 (a5,b5,v5) (by simp),h.1 (a6,b6,v6) (by simp),h.1 (a7,b7,v7) (by simp),h.1 (a8,b8,v8) (by simp),h.1 (a9,b9,v9) (by simp),h.1 (a10,b10,v10) (by simp),h⟩
theorem qt_held {lo:Nat} {wz W:World} {cs:List (Nat × Nat × Value)} {p1 p2 p3 p4 p5 p6 p7 p8 p9 p10:Prop} (h:p1∧p2∧p3∧p4∧p5∧p6∧p7∧p8∧p9∧p10∧QL lo wz cs W):Below lo wz W:=h.2.2.2.2.2.2.2.2.2.2.2
theorem qt_last {lo:Nat} {wz W:World} {cs:List (Nat × Nat × Value)} {p1 p2 p3 p4 p5 p6 p7 p8 p9 p10:Prop} (h:p1∧p2∧p3∧p4∧p5∧p6∧p7∧p8∧p9∧p10∧QL lo wz cs W):QL lo wz cs W:=h.2.2.2.2.2.2.2.2.2.2
structure SK (w:World) (cs:Array Value) (W:World):Prop where
 low:Below w.heap.size w W
 box:W.heap[w.heap.size]? = some (.cells cs 24 (0,0))
theorem SK.next {w W W':World} {cs:Array Value} (h:SK w cs W) (hb:Below W.heap.size W W'):SK w cs W':=
 ⟨h.low.trans (hb.mono h.low.size),(hb.block _ (Array.getElem?_eq_some_iff.1 h.box).1).trans h.box⟩
theorem SK.lt {w W:World} {cs:Array Value} (h:SK w cs W):w.heap.size < W.heap.size:=(Array.getElem?_eq_some_iff.1 h.box).1
theorem walk (w : World) (S:SchT) (c0 c1 c2:Value) (hw:Laid5 w) (hz:SlimS S) (hlg:ligN S≤1048576) (hS:TS w (fun b=>b < w.heap.size) (encSch S) [c0,c1,c2]) :
   Calls Tryz.prog 6 #[.agg #[c0,c1,c2]] w fun e w'=>e=.returned (.bool true)∧Below w.heap.size w w':=by
 obtain ⟨A,k,e,hl,hR⟩:=sch_cells hS
 injection e with e0 e
 injection e with e1 e
 injection e with e2 e
 subst e0 e1 e2
 have TSX:=fun (wx:World) (h:Below w.heap.size w wx)=>Hd (show TS wx (fun b=>b < w.heap.size) (encSch S) [.slice A S.defs.length k,.string S.query,.string S.mutation] from TS.low h hS)
 have LG:=Hd (fun (wx:World) (h:Below w.heap.size w wx)=>lightN_any S _ _ _ wx w.heap.size h.size (TSX wx h).out hlg)
 have CK:=Hd (fun (ok:OkS S) (wx:World) (h:Below w.heap.size w wx)=>check_all S ok _ _ _ wx w.heap.size h.size (TSX wx h).out (hw.below h))
 have AW:=Hd (fun (wx:World) (h:Below w.heap.size w wx)=>exwake_any wx (hw.below h))
 have FN0:=Hd (fun (n:ByteArray) (hn:n.size≤9223372036854775807) (wx:World) (h:Below w.heap.size w wx)=>FindN_any S n _ _ _ wx w.heap.size h.size hn hz (TSX wx h).out)
 have FD0:=Hd (fun (t n:ByteArray) (ht:t.size≤9223372036854775807) (wx:World) (h:Below w.heap.size w wx)=>field_any S t n _ _ _ wx w.heap.size h.size ht hz (TSX wx h).out)
 have MT0:=Hd (fun (a b:ByteArray) (ha:a.size≤9223372036854775807) (hb:b.size≤9223372036854775807) (wx:World) (h:Below w.heap.size w wx)=>meets_any S a b _ _ _ wx w.heap.size h.size ha hb hz (TSX wx h).out)
 have SU0:=Hd (fun (na:ByteArray) (la ma:Int) (nb:ByteArray) (lb mb:Int) (ha:na.size≤9223372036854775807) (hb:nb.size≤9223372036854775807) (wx:World) (h:Below w.heap.size w wx)=>dsub_any S na la ma nb lb mb _ _ _ wx w.heap.size h.size ha hb hz (TSX wx h).out)
 have HOK:=Hd (fun (h:ligN S≤4000)=>okS_of h hz)
 have HR:=Hd (fun (wx:World) (h:Below w.heap.size w wx)=>RowT.below h hR)
 have K1:SK w #[.slice A S.defs.length k,.string S.query,.string S.mutation] (w.alloc (.cells #[.slice A S.defs.length k,.string S.query,.string S.mutation] 24)):=⟨dbelow_new _ _,heap_alloc_new _ _⟩
 have HK1:=Hd K1
 clear hw hz hlg hS hR e TSX K1
 go_enter Tryz.func6,Tryz.ntmps6
 go_upto_region 1 with fail
 generalize w.alloc (.cells #[.slice A S.defs.length k,.string S.query,.string S.mutation] 24)=w1 at HK1 ⊢
 obtain ⟨z0,z1,z2⟩:=three_cells HK1.out.box
 obtain ⟨lb,hlb⟩:∃ b,decide (((ligN S:Nat):Int)≤4000)=b:=⟨_,rfl⟩
 have LB:=Hd hlb
 rw [hlb] at LG
 clear hlb
 cases lb with
 | false =>
   go_wp2_with fail
   refine (LG.out _ HK1.out.low).mono ?_
   rintro e w2 ⟨rfl,hb⟩
   have K2:=Hd (HK1.out.next hb)
   clear hb
   go_wp2_with fail
   refine (AW.out _ K2.out.low).mono ?_
   rintro e w3 ⟨rfl,hb⟩
   have K3:=Hd (K2.out.next hb)
   clear hb
   go_wp2_with fail
   go_ret
   exact ⟨rfl,K3.out.low⟩
 | true =>
   have HOK1:=Hd (HOK.out (by have:=of_decide_eq_true LB.out;omega))
   have H4:Hid (ligN S≤4000):=Hd (by have:=of_decide_eq_true LB.out;omega)
   go_wp2_with fail
   refine (LG.out _ HK1.out.low).mono ?_
   rintro e w2 ⟨rfl,hb⟩
   have K2:=Hd (HK1.out.next hb)
   clear hb z0 z1 z2 LG
   obtain ⟨z0,z1,z2⟩:=three_cells K2.out.box
   have CK1:=Hd (CK.out HOK1.out)
   have HZK:=Hd (fun (h:checkS S=0)=>check_zero h)
   clear CK
   obtain ⟨kz,hkz⟩:∃ x,checkS S=x:=⟨_,rfl⟩
   rw [hkz] at CK1 HZK
   clear hkz
   cases e0:(kz == 0) with
   | false =>
     go_wp2_with fail
     refine (CK1.out _ K2.out.low).mono ?_
     rintro e w3 ⟨rfl,hb⟩
     have K3:=Hd (K2.out.next hb)
     clear hb
     go_wp2_with fail
     refine (AW.out _ K3.out.low).mono ?_
     rintro e w4 ⟨rfl,hb⟩
     have K4:=Hd (K3.out.next hb)
     clear hb
     go_wp2_with fail
     go_ret
     exact ⟨rfl,K4.out.low⟩
   | true =>
     have e1:kz=0:=eq_of_beq e0
     subst e1
     have R1:Hid (rule1B S=true):=Hd (HZK.out rfl).1
     have R3:Hid (rule3B S=true):=Hd (HZK.out rfl).2.2.1
     have R5:Hid (rule5B S=true):=Hd (HZK.out rfl).2.2.2.2.1
     have R6:Hid (rule6B S=true):=Hd (HZK.out rfl).2.2.2.2.2.1
     clear HZK e0
     go_wp2_with fail
     refine (CK1.out _ K2.out.low).mono ?_
     rintro e w3 ⟨rfl,hb⟩
     have K3:=Hd (K2.out.next hb)
     clear hb CK1 K2 HK1 z0 z1 z2
     go_wp2_with fail
     go_loopg [3,4,5,6,7,8,9,10] S.defs.length (fun g i b1 b2 b3 b4 b5 b6 b7 wx=>∃ q:Nat,q+g=S.defs.length∧i=.int .i64 q∧SK w #[.slice A S.defs.length k,.string S.query,.string S.mutation] wx)
     case atStart=>exact ⟨0,by omega,rfl,K3.out⟩
     case round =>
      obtain ⟨q,hq,rfl,hb⟩:=hrel
      have KR0:=Hd hb
      clear hb
      obtain ⟨z0,z1,z2⟩:=three_cells KR0.out.box
      cases gk with
      | zero =>
        obtain rfl:q=S.defs.length:=by omega
        go_wp2_with fail
        refine (AW.out _ KR0.out.low).mono ?_
        rintro e w4 ⟨rfl,hb⟩
        have K4:=Hd (KR0.out.next hb)
        clear hb
        go_wp2_with fail
        go_ret
        exact ⟨rfl,K4.out.low⟩
      | succ g1 =>
        have hqn:q < S.defs.length:=by omega
        have hqn':(q:Int) < (S.defs.length:Int):=by omega
        obtain ⟨d,hd⟩:∃ x,S.defs[q]? = some x:=⟨_,List.getElem?_eq_getElem hqn⟩
        have HD:=Hd (List.mem_of_getElem? hd)
        obtain ⟨bd,pd,d0,d1,d2,d3,d4,d5,rfl,hlt,⟨y0,y1,y2,y3,y4,y5⟩,hT⟩:=defn_at (HR.out _ KR0.out.low) hd
        obtain ⟨Af,kf,Ax,kx,Ap,kp,Am,km,e,hdn,⟨lf,hf⟩,_⟩:=defn_cells hT
        simp only [List.cons.injEq,and_true] at e
        obtain ⟨rfl,rfl,rfl,rfl,rfl,rfl⟩:=e
        have HDN:=Hd hdn
        have HLF:=Hd lf
        have HFF0:=Hd hf
        clear hT hd hf lf hdn hlt
        go_upto_region 7 with fail
        have bn:=dbelow_new wr (.cells #[.int .i64 d.kind,.string d.name,.slice Af d.faces.length kf,.slice Ax d.fields.length kx,.slice Ap d.parts.length kp,.slice Am d.params.length km] 37)
        have DB0:=Hd (heap_alloc_new wr (.cells #[.int .i64 d.kind,.string d.name,.slice Af d.faces.length kf,.slice Ax d.fields.length kx,.slice Ap d.parts.length kp,.slice Am d.params.length km] 37))
        have KR5:=Hd (KR0.out.next bn)
        have HFF:=Hd (RowT.below (bn.mono KR0.out.low.size) HFF0.out)
        clear HFF0 y0 y1 y2 y3 y4 y5 z0 z1 z2
        generalize wr.alloc (.cells #[.int .i64 d.kind,.string d.name,.slice Af d.faces.length kf,.slice Ax d.fields.length kx,.slice Ap d.parts.length kp,.slice Am d.params.length km] 37)=w5 at bn DB0 KR5 HFF ⊢
        have GD:Hid (w.heap.size < wr.heap.size):=Hd KR0.out.lt
        generalize wr.heap.size=gd at DB0 GD bn ⊢
        obtain ⟨⟨x0,x1,x2,x3,x4,x5⟩,_⟩:=six_cells DB0.out
        clear bn
        go_wp2_with fail
        clear x0 x1 x2 x3 x4 x5
        go_loopg [5,6,7,8,9,10] d.faces.length (fun g kk b2 b3 b4 b5 b6 wx=>∃ q2:Nat,q2+g=d.faces.length∧kk=.int .i64 q2∧Below w5.heap.size w5 wx)
        case atStart=>exact ⟨0,by omega,rfl,Below.refl _ _⟩
        case round =>
         obtain ⟨q2,hq2,rfl,hb2⟩:=hrel
         have LR:=Hd hb2
         have KR:=Hd (KR5.out.next hb2)
         have DB:=Hd ((hb2.block _ (Array.getElem?_eq_some_iff.1 DB0.out).1).trans DB0.out)
         clear hb2
         obtain ⟨z0,z1,z2⟩:=three_cells KR.out.box
         obtain ⟨⟨x0,x1,x2,x3,x4,x5⟩,_⟩:=six_cells DB.out
         have hlf:=HLF.out
         cases gk with
         | zero =>
           obtain rfl:q2=d.faces.length:=by omega
           go_wp2_with fail
           go_roundg g1
           case measure=>omega
           case rel=>exact ⟨q+1,by omega,by go_num,KR.out⟩
         | succ g2 =>
           have hq2n:q2 < d.faces.length:=by omega
           have hq2n':(q2:Int) < (d.faces.length:Int):=by omega
           obtain ⟨s,hs⟩:∃ x,d.faces[q2]? = some x:=⟨_,List.getElem?_eq_getElem hq2n⟩
           have HSM:=Hd (List.mem_of_getElem? hs)
           obtain ⟨bf,pf,csf,rfl,hltf,hcf,hTs⟩:=rowOf_at 1 len_str (RowT.below (LR.out.mono KR5.out.low.size) HFF.out) hs
           obtain ⟨rfl,hsz⟩:=str_one hTs
           have f0:wr.cell? ⟨bf,pf+q2,none⟩=some (.string s):=by have h:=hcf 0 _ rfl;rw [Nat.mul_one] at h;exact h
           have HF2:=Hd (sound_face R5.out HD.out HSM.out)
           have HFM:=Hd (fun h=>sound_meets R1.out R5.out HD.out HSM.out h)
           have HFD:=Hd (fun g hg=>sound_field R1.out R3.out R5.out R6.out HD.out HSM.out (g:=g) hg)
           have HOK2:Hid ((findD S.defs s).2=true):=Hd (findD_is (by rw [HF2.out];decide)).1
           have FN:=Hd (fun (wx:World) (h:Below wr.heap.size wr wx)=>FN0.out s hsz wx (KR.out.low.trans (h.mono KR.out.low.size)))
           generalize findD S.defs s=fp at HF2 HFM HFD HOK2 FN
           obtain ⟨fd,ok⟩:=fp
           obtain rfl:ok=true:=HOK2.out
           dsimp only at HF2 HFM HFD
           obtain ⟨lo,hlo⟩:∃ n,n=wr.heap.size:=⟨_,rfl⟩
           have HLO:=Hd (Nat.le_of_eq hlo)
           have l0:w.heap.size < lo:=by rw [hlo];exact KR.out.lt
           have l1:gd < lo:=by rw [hlo];exact (Array.getElem?_eq_some_iff.1 DB.out).1
           have l2:bf < lo:=by rw [hlo];exact Nat.lt_of_lt_of_le hltf KR.out.low.size
           clear hlo hs hltf hcf hTs hsz HOK2
           go_upto_region 10 with fail
           have HE:Hid (QL lo wr [(w.heap.size,0,(Value.slice (some ⟨bd,pd,none⟩) S.defs.length k)),(w.heap.size,1,(Value.string S.query)),(w.heap.size,2,(Value.string S.mutation)),(gd,2,(Value.slice (some ⟨bf,pf,none⟩) d.faces.length kf)),(bf,pf+q2,(Value.string s))] wr):=Hd ⟨fun cc hcc=>by
             simp only [List.mem_cons,List.not_mem_nil,or_false] at hcc
             rcases hcc with rfl|rfl|rfl|rfl|rfl<;>assumption,Below.refl _ _⟩
           have HLW:Hid (∀ c,c ∈ [(w.heap.size,0,(Value.slice (some ⟨bd,pd,none⟩) S.defs.length k)),(w.heap.size,1,(Value.string S.query)),(w.heap.size,2,(Value.string S.mutation)),(gd,2,(Value.slice (some ⟨bf,pf,none⟩) d.faces.length kf)),(bf,pf+q2,(Value.string s))]→c.1 < lo):=Hd (fun cc hcc=>by
             simp only [List.mem_cons,List.not_mem_nil,or_false] at hcc
             rcases hcc with rfl|rfl|rfl|rfl|rfl<;>assumption)
           refine wp_region_held_drew (S:=(fun w'=>w'.cell? ⟨w.heap.size,0,none⟩=some (Value.slice (some ⟨bd,pd,none⟩) S.defs.length k)∧w'.cell? ⟨w.heap.size,1,none⟩=some (Value.string S.query)∧w'.cell? ⟨w.heap.size,2,none⟩=some (Value.string S.mutation)∧w'.cell? ⟨gd,2,none⟩=some (Value.slice (some ⟨bf,pf,none⟩) d.faces.length kf)∧w'.cell? ⟨bf,pf+q2,none⟩=some (Value.string s)∧QL lo wr [(w.heap.size,0,(Value.slice (some ⟨bd,pd,none⟩) S.defs.length k)),(w.heap.size,1,(Value.string S.query)),(w.heap.size,2,(Value.string S.mutation)),(gd,2,(Value.slice (some ⟨bf,pf,none⟩) d.faces.length kf)),(bf,pf+q2,(Value.string s))] w')) (by kernel_rfl) (q5_written (HE.out.next HLW.out (Below.drew (Below.refl _ _)))) (fun hHeld=>?_)
           refine wpAnyH_take (i:=0) (oi:=_) (v:=?_) rfl (by kernel_rfl) (by kernel_rfl) (by kernel_rfl) (fun _ _ _ h=>h) (Or.inl ⟨by rfl,?_⟩) (by assumption) ?_
           rotate_left
           · (intro w hSw;(try dsimp only at hSw);go_simp;try with_reducible rfl)
           try simp only [Act.put,List.getElem_toArray,List.getElem_cons_zero,List.setIfInBounds_toArray,List.set_cons_zero,List.set_cons_succ]
           refine wpAnyH_take (i:=1) (oi:=_) (v:=?_) rfl (by kernel_rfl) (by kernel_rfl) (by kernel_rfl) (fun _ _ _ h=>h) (Or.inl ⟨by rfl,?_⟩) (by assumption) ?_
           rotate_left
           · (intro w hSw;(try dsimp only at hSw);go_simp;try with_reducible rfl)
           try simp only [Act.put,List.getElem_toArray,List.getElem_cons_zero,List.getElem_cons_succ,List.setIfInBounds_toArray,List.set_cons_zero,List.set_cons_succ]
           refine wpAnyH_take (i:=2) (oi:=_) (v:=?_) rfl (by kernel_rfl) (by kernel_rfl) (by kernel_rfl) (fun _ _ _ h=>h) (Or.inl ⟨by rfl,?_⟩) (by assumption) ?_
           rotate_left
           · (intro w hSw;(try dsimp only at hSw);go_simp;try with_reducible rfl)
           try simp only [Act.put,List.getElem_toArray,List.getElem_cons_zero,List.getElem_cons_succ,List.setIfInBounds_toArray,List.set_cons_zero,List.set_cons_succ]
           refine wpAnyH_take (i:=3) (oi:=_) (v:=?_) rfl (by kernel_rfl) (by kernel_rfl) (by kernel_rfl) (fun _ _ _ h=>h) (Or.inl ⟨by rfl,?_⟩) (by assumption) ?_
           rotate_left
           · (intro w hSw;(try dsimp only at hSw);go_simp;try with_reducible rfl)
           try simp only [Act.put,List.getElem_toArray,List.getElem_cons_zero,List.getElem_cons_succ,List.setIfInBounds_toArray,List.set_cons_zero,List.set_cons_succ]
           refine wpAnyH_take (i:=4) (oi:=_) (v:=?_) rfl (by kernel_rfl) (by kernel_rfl) (by kernel_rfl) (fun _ _ _ h=>h) (Or.inl ⟨by rfl,?_⟩) (by assumption) ?_
           rotate_left
           · (intro w hSw;(try dsimp only at hSw);go_simp;try with_reducible rfl)
           try simp only [Act.put,List.getElem_toArray,List.getElem_cons_zero,List.getElem_cons_succ,List.setIfInBounds_toArray,List.set_cons_zero,List.set_cons_succ]
           refine wpAnyH_take (i:=5) (oi:=_) (v:=?_) rfl (by kernel_rfl) (by kernel_rfl) (by kernel_rfl) (fun _ _ _ h=>h) (Or.inl ⟨by rfl,?_⟩) (by assumption) ?_
           rotate_left
           · (intro w hSw;(try dsimp only at hSw);go_simp;try with_reducible rfl)
           try simp only [Act.put,List.getElem_toArray,List.getElem_cons_zero,List.getElem_cons_succ,List.setIfInBounds_toArray,List.set_cons_zero,List.set_cons_succ]
           refine wpAnyH_ready (rs:=[6,10]) (by kernel_rfl) (by simp) ?_
           refine AllReadyH.cons (o:=_) rfl (fun K hK=>?_) (AllReadyH.cons (o:=_) rfl (fun K hK=>?_) AllReadyH.nil)
           focus
             go_simp
             refine (FN.out _ (Below.drew (Below.refl _ _))).mono ?_
             rintro e wc ⟨e0,e1,e2,e3,e4,e5,rfl,hT,hb⟩
             have HFU:=Hd ((Below.drew (Below.refl _ _):Below wr.heap.size wr _).trans (hb.mono (Below.drew (Below.refl _ _):Below wr.heap.size wr _).size))
             have HBL:=Hd (hb.mono (Nat.le_trans HLO.out (Below.drew (Below.refl _ _):Below wr.heap.size wr _).size))
             obtain ⟨Bf,jf,Bx,jx,Bp,jp,Bm,jm,e,hnm2,_,⟨hxl,hx2⟩,_⟩:=defn_cells hT
             simp only [List.cons.injEq,and_true] at e
             obtain ⟨rfl,rfl,rfl,rfl,rfl,rfl⟩:=e
             have HN2:=Hd hnm2
             have HXL:=Hd hxl
             have HX:=Hd hx2
             clear hnm2 hxl hx2
             clear hb hT
             go_wp2_with fail
             refine hK.out _ _ (q5_written (QL.next (q5_last (by assumption)) HLW.out HBL.out)) (fun hHeld=>?_)
             clear hK K
             try simp only [Act.put,List.getElem_toArray,List.getElem_cons_zero,List.getElem_cons_succ,List.setIfInBounds_toArray,List.set_cons_zero,List.set_cons_succ]
             refine wpAnyH_take (i:=7) (oi:=_) (v:=?_) rfl (by kernel_rfl) (by kernel_rfl) (by kernel_rfl) (fun _ _ _ h=>h) (Or.inl ⟨by rfl,?_⟩) (by assumption) ?_
             rotate_left
             · (intro w hSw;(try dsimp only at hSw);go_simp;try with_reducible rfl)
             try simp only [Act.put,List.getElem_toArray,List.getElem_cons_zero,List.getElem_cons_succ,List.setIfInBounds_toArray,List.set_cons_zero,List.set_cons_succ]
             refine wpAnyH_take (i:=8) (oi:=_) (v:=?_) rfl (by kernel_rfl) (by kernel_rfl) (by kernel_rfl) (fun _ _ _ h=>h) (Or.inl ⟨by rfl,?_⟩) (by assumption) ?_
             rotate_left
             · (intro w hSw;(try dsimp only at hSw);go_simp;try with_reducible rfl)
             try simp only [Act.put,List.getElem_toArray,List.getElem_cons_zero,List.getElem_cons_succ,List.setIfInBounds_toArray,List.set_cons_zero,List.set_cons_succ]
             refine wpAnyH_take (i:=9) (oi:=_) (v:=?_) rfl (by kernel_rfl) (by kernel_rfl) (by kernel_rfl) (fun _ _ _ h=>h) (Or.inl ⟨by rfl,?_⟩) (by assumption) ?_
             rotate_left
             · (intro w hSw;(try dsimp only at hSw);go_simp;try with_reducible rfl)
             try simp only [Act.put,List.getElem_toArray,List.getElem_cons_zero,List.getElem_cons_succ,List.setIfInBounds_toArray,List.set_cons_zero,List.set_cons_succ]
             refine wpAnyH_ready (rs:=[10]) (by kernel_rfl) (by simp) ?_
             refine AllReadyH.cons (o:=_) rfl (fun K hK=>?_) AllReadyH.nil
             go_simp
             have HBL:=Hd ((dbelow_new wc (.cells #[.int .i64 0,.string ⟨#[]⟩,.slice none 0 0,.slice none 0 0,.slice none 0 0,.slice none 0 0] 37)).mono (Nat.le_trans HLO.out HFU.out.size))
             have HFV:=Hd (HFU.out.trans ((dbelow_new wc (.cells #[.int .i64 0,.string ⟨#[]⟩,.slice none 0 0,.slice none 0 0,.slice none 0 0,.slice none 0 0] 37)).mono HFU.out.size))
             have HZ:=Hd (heap_alloc_new wc (.cells #[.int .i64 0,.string ⟨#[]⟩,.slice none 0 0,.slice none 0 0,.slice none 0 0,.slice none 0 0] 37))
             have HGZ:=Hd (HFU.out.size)
             have HXR:=Hd (RowT.keep (P':=fun b=>b < (wc.alloc (.cells #[.int .i64 0,.string ⟨#[]⟩,.slice none 0 0,.slice none 0 0,.slice none 0 0,.slice none 0 0] 37)).heap.size∧b ≠ wc.heap.size) (fun b hb=>⟨⟨Nat.lt_of_lt_of_le hb.1 (dbelow_new wc (.cells #[.int .i64 0,.string ⟨#[]⟩,.slice none 0 0,.slice none 0 0,.slice none 0 0,.slice none 0 0] 37)).size,Nat.ne_of_lt hb.1⟩,(dbelow_new wc (.cells #[.int .i64 0,.string ⟨#[]⟩,.slice none 0 0,.slice none 0 0,.slice none 0 0,.slice none 0 0] 37)).block b hb.1⟩) _ _ HX.out)
             clear HX
             generalize wc.alloc (.cells #[.int .i64 0,.string ⟨#[]⟩,.slice none 0 0,.slice none 0 0,.slice none 0 0,.slice none 0 0] 37)=we at HBL HFV HZ HXR ⊢
             generalize wc.heap.size=gn at HZ HGZ HXR ⊢
             refine hK.out _ _ (q5_written (QL.next (q5_last (by assumption)) HLW.out HBL.out)) (fun hHeld=>?_)
             clear hK K
             try simp only [Act.put,List.getElem_toArray,List.getElem_cons_zero,List.getElem_cons_succ,List.setIfInBounds_toArray,List.set_cons_zero,List.set_cons_succ]
             clear HFU
           rotate_left
           focus
             go_simp
             have hdr:Below (wr.alloc (.cells #[.int .i64 0,.string ⟨#[]⟩,.slice none 0 0,.slice none 0 0,.slice none 0 0,.slice none 0 0] 37)).heap.size (wr.alloc (.cells #[.int .i64 0,.string ⟨#[]⟩,.slice none 0 0,.slice none 0 0,.slice none 0 0,.slice none 0 0] 37)) (wr.alloc (.cells #[.int .i64 0,.string ⟨#[]⟩,.slice none 0 0,.slice none 0 0,.slice none 0 0,.slice none 0 0] 37)).drew:=Below.drew (Below.refl _ _)
             have HFU:=Hd ((dbelow_new wr (.cells #[.int .i64 0,.string ⟨#[]⟩,.slice none 0 0,.slice none 0 0,.slice none 0 0,.slice none 0 0] 37)).trans (hdr.mono (dbelow_new wr (.cells #[.int .i64 0,.string ⟨#[]⟩,.slice none 0 0,.slice none 0 0,.slice none 0 0,.slice none 0 0] 37)).size))
             have HBL:=Hd (HFU.out.mono HLO.out)
             have HZ:=Hd ((hdr.block _ (by simp)).trans (heap_alloc_new wr (.cells #[.int .i64 0,.string ⟨#[]⟩,.slice none 0 0,.slice none 0 0,.slice none 0 0,.slice none 0 0] 37)))
             generalize (wr.alloc (.cells #[.int .i64 0,.string ⟨#[]⟩,.slice none 0 0,.slice none 0 0,.slice none 0 0,.slice none 0 0] 37)).drew=wb at HBL HFU HZ ⊢
             obtain ⟨gn,hgn⟩:∃ g,wr.heap.size=g:=⟨_,rfl⟩
             have HGZ:=Hd (Nat.le_of_eq hgn)
             rw [hgn] at HZ ⊢
             clear hdr hgn
             refine hK.out _ _ (q5_written (HE.out.next HLW.out HBL.out)) (fun hHeld=>?_)
             clear hK K
             try simp only [Act.put,List.getElem_toArray,List.getElem_cons_zero,List.getElem_cons_succ,List.setIfInBounds_toArray,List.set_cons_zero,List.set_cons_succ]
             refine wpAnyH_ready (rs:=[6]) (by kernel_rfl) (by simp) ?_
             refine AllReadyH.cons (o:=_) rfl (fun K hK=>?_) AllReadyH.nil
             go_simp
             refine (FN.out _ HFU.out).mono ?_
             rintro e we ⟨e0,e1,e2,e3,e4,e5,rfl,hT,hb⟩
             have HFV:=Hd (HFU.out.trans (hb.mono HFU.out.size))
             have HBL:=Hd (hb.mono (Nat.le_trans HLO.out HFU.out.size))
             have HGB:=Hd (Array.getElem?_eq_some_iff.1 HZ.out).1
             have HZ:=Hd ((hb.block _ (Array.getElem?_eq_some_iff.1 HZ.out).1).trans HZ.out)
             obtain ⟨Bf,jf,Bx,jx,Bp,jp,Bm,jm,e,hnm2,_,⟨hxl,hx2⟩,_⟩:=defn_cells hT
             simp only [List.cons.injEq,and_true] at e
             obtain ⟨rfl,rfl,rfl,rfl,rfl,rfl⟩:=e
             have HN2:=Hd hnm2
             have HXL:=Hd hxl
             have HXR:=Hd (RowT.keep (P':=fun b=>b < we.heap.size∧b ≠ gn) (fun b hb=>⟨⟨hb.1,by have h1:=HGB.out;have h2:=HGZ.out;have h3:=KR.out.low.size;rcases hb.2 with h|h<;>omega⟩,rfl⟩) _ _ hx2)
             clear hnm2 hxl hx2
             clear hb hT HGB
             go_wp2_with fail
             refine hK.out _ _ (q5_written (QL.next (q5_last (by assumption)) HLW.out HBL.out)) (fun hHeld=>?_)
             clear hK K
             try simp only [Act.put,List.getElem_toArray,List.getElem_cons_zero,List.getElem_cons_succ,List.setIfInBounds_toArray,List.set_cons_zero,List.set_cons_succ]
             refine wpAnyH_take (i:=7) (oi:=_) (v:=?_) rfl (by kernel_rfl) (by kernel_rfl) (by kernel_rfl) (fun _ _ _ h=>h) (Or.inl ⟨by rfl,?_⟩) (by assumption) ?_
             rotate_left
             · (intro w hSw;(try dsimp only at hSw);go_simp;try with_reducible rfl)
             try simp only [Act.put,List.getElem_toArray,List.getElem_cons_zero,List.getElem_cons_succ,List.setIfInBounds_toArray,List.set_cons_zero,List.set_cons_succ]
             refine wpAnyH_take (i:=8) (oi:=_) (v:=?_) rfl (by kernel_rfl) (by kernel_rfl) (by kernel_rfl) (fun _ _ _ h=>h) (Or.inl ⟨by rfl,?_⟩) (by assumption) ?_
             rotate_left
             · (intro w hSw;(try dsimp only at hSw);go_simp;try with_reducible rfl)
             try simp only [Act.put,List.getElem_toArray,List.getElem_cons_zero,List.getElem_cons_succ,List.setIfInBounds_toArray,List.set_cons_zero,List.set_cons_succ]
             refine wpAnyH_take (i:=9) (oi:=_) (v:=?_) rfl (by kernel_rfl) (by kernel_rfl) (by kernel_rfl) (fun _ _ _ h=>h) (Or.inl ⟨by rfl,?_⟩) (by assumption) ?_
             rotate_left
             · (intro w hSw;(try dsimp only at hSw);go_simp;try with_reducible rfl)
             try simp only [Act.put,List.getElem_toArray,List.getElem_cons_zero,List.getElem_cons_succ,List.setIfInBounds_toArray,List.set_cons_zero,List.set_cons_succ]
             clear HFU
           all_goals
             refine wpAnyH_ready (rs:=[11]) (by kernel_rfl) (by simp) ?_
             refine AllReadyH.cons (o:=_) rfl (fun K hK=>?_) AllReadyH.nil
             obtain ⟨⟨u0,u1,u2,u3,u4,u5⟩,v0,v1,v2,v3,v4,v5⟩:=six_cells HZ.out
             go_simp
             clear u0 u1 u2 u3 u4 u5 v0 v1 v2 v3 v4 v5
             have HBL:=Hd (six_low (c0:=.int .i64 fd.kind) (c1:=.string fd.name) (c2:=.slice Bf fd.faces.length jf) (c3:=.slice Bx fd.fields.length jx) (c4:=.slice Bp fd.parts.length jp) (c5:=.slice Bm fd.params.length jm) (Below.refl lo we) (Nat.le_trans HLO.out HGZ.out))
             refine hK.out _ _ (q5_written (QL.next (q5_last (by assumption)) HLW.out HBL.out)) (fun hHeld=>?_)
             clear hK K
             try simp only [Act.put,List.getElem_toArray,List.getElem_cons_zero,List.getElem_cons_succ,List.setIfInBounds_toArray,List.set_cons_zero,List.set_cons_succ]
             refine wpAnyH_take (i:=12) (oi:=_) (v:=?_) rfl (by kernel_rfl) (by kernel_rfl) (by kernel_rfl) (fun _ _ _ h=>h) (Or.inl ⟨by rfl,?_⟩) (by assumption) ?_
             rotate_left
             · (intro w hSw;(try dsimp only at hSw);go_simp;try with_reducible rfl)
             try simp only [Act.put,List.getElem_toArray,List.getElem_cons_zero,List.getElem_cons_succ,List.setIfInBounds_toArray,List.set_cons_zero,List.set_cons_succ]
             refine wpAnyH_done (by kernel_rfl) ?_ _
             clear hHeld
             have B7:=Hd (six_low (c0:=.int .i64 fd.kind) (c1:=.string fd.name) (c2:=.slice Bf fd.faces.length jf) (c3:=.slice Bx fd.fields.length jx) (c4:=.slice Bp fd.parts.length jp) (c5:=.slice Bm fd.params.length jm) HFV.out HGZ.out)
             have Y7:=Hd (six_set (c0:=.int .i64 fd.kind) (c1:=.string fd.name) (c2:=.slice Bf fd.faces.length jf) (c3:=.slice Bx fd.fields.length jx) (c4:=.slice Bp fd.parts.length jp) (c5:=.slice Bm fd.params.length jm) HZ.out)
             have HX7:Hid (RowT ((((((we.setCell ⟨gn,0,none⟩ (.int .i64 fd.kind)).setCell ⟨gn,1,none⟩ (.string fd.name)).setCell ⟨gn,2,none⟩ (.slice Bf fd.faces.length jf)).setCell ⟨gn,3,none⟩ (.slice Bx fd.fields.length jx)).setCell ⟨gn,4,none⟩ (.slice Bp fd.parts.length jp)).setCell ⟨gn,5,none⟩ (.slice Bm fd.params.length jm)) (fun b=>b < ((((((we.setCell ⟨gn,0,none⟩ (.int .i64 fd.kind)).setCell ⟨gn,1,none⟩ (.string fd.name)).setCell ⟨gn,2,none⟩ (.slice Bf fd.faces.length jf)).setCell ⟨gn,3,none⟩ (.slice Bx fd.fields.length jx)).setCell ⟨gn,4,none⟩ (.slice Bp fd.parts.length jp)).setCell ⟨gn,5,none⟩ (.slice Bm fd.params.length jm)).heap.size) (rowOf encField fd.fields) Bx):=Hd (RowT.keep (fun b hb=>⟨by simpa [World.setCell] using hb.1,six_heap hb.2⟩) _ _ HXR.out)
             generalize (((((we.setCell ⟨gn,0,none⟩ (.int .i64 fd.kind)).setCell ⟨gn,1,none⟩ (.string fd.name)).setCell ⟨gn,2,none⟩ (.slice Bf fd.faces.length jf)).setCell ⟨gn,3,none⟩ (.slice Bx fd.fields.length jx)).setCell ⟨gn,4,none⟩ (.slice Bp fd.parts.length jp)).setCell ⟨gn,5,none⟩ (.slice Bm fd.params.length jm)=w7 at B7 Y7 HX7 ⊢
             have K7:=Hd (KR.out.next B7.out)
             have D7:=Hd ((B7.out.block _ (Array.getElem?_eq_some_iff.1 DB.out).1).trans DB.out)
             have L7:=Hd (LR.out.trans (B7.out.mono LR.out.size))
             have GL:=Hd (Nat.lt_of_lt_of_le (Array.getElem?_eq_some_iff.1 DB.out).1 HGZ.out)
             clear HE HLW HBL HFV HZ HXR HGZ HLO FN
             obtain ⟨z0,z1,z2⟩:=three_cells K7.out.box
             obtain ⟨⟨x0,x1,x2,x3,x4,x5⟩,_⟩:=six_cells D7.out
             obtain ⟨⟨y0,y1,y2,y3,y4,y5⟩,_⟩:=six_cells Y7.out
             have e2:(fd.kind == 2)=true:=by rw [HF2.out];rfl
             clear x2 x3 x4 x5 y2 y4 y5
             have MT:=Hd (fun (h1:d.kind=1) (wx:World) (h:Below w7.heap.size w7 wx)=>MT0.out d.name fd.name HDN.out HN2.out wx (K7.out.low.trans (h.mono K7.out.low.size)))
             cases ek:(d.kind == 1)
             focus
               go_wp2_with fail
               obtain ⟨w8,hw8⟩:∃ x,x=w7:=⟨_,rfl⟩
               subst hw8
               have K8:=K7
               have D8:=D7
               have F8:=Y7
               have L8:=L7
               have HX8:=HX7
               clear K7 D7 Y7 L7 HX7 MT
             rotate_left
             focus
               have MTX:=Hd (MT.out (eq_of_beq ek))
               rw [HFM.out (eq_of_beq ek)] at MTX
               go_wp2_with fail
               refine (MTX.out _ (Below.refl _ _)).mono ?_
               rintro e w8 ⟨rfl,hb⟩
               have K8:=Hd (K7.out.next hb)
               have D8:=Hd ((hb.block _ (Array.getElem?_eq_some_iff.1 D7.out).1).trans D7.out)
               have F8:=Hd ((hb.block _ (Array.getElem?_eq_some_iff.1 Y7.out).1).trans Y7.out)
               have L8:=Hd (L7.out.trans (hb.mono L7.out.size))
               have HX8:Hid (RowT w8 (fun b=>b < w8.heap.size) (rowOf encField fd.fields) Bx):=Hd (RowT.keep (fun b hx=>⟨Nat.lt_of_lt_of_le hx hb.size,hb.block b hx⟩) _ _ HX7.out)
               clear K7 D7 Y7 L7 HX7 MT MTX hb z0 z1 z2 x0 x1 y0 y1 y3
               obtain ⟨⟨_,_,_,y3,_,_⟩,_⟩:=six_cells F8.out
               go_wp2_with fail
             all_goals
               obtain ⟨gf,hgf⟩:∃ x,x=gn:=⟨_,rfl⟩
               subst hgf
               clear ek e2
               go_loopg [8,9,10] fd.fields.length (fun g j b5 b6 wx=>∃ q3:Nat,q3+g=fd.fields.length∧j=.int .i64 q3∧Below w8.heap.size w8 wx)
               case atStart=>exact ⟨0,by omega,rfl,Below.refl _ _⟩
               case round =>
                obtain ⟨q3,hq3,rfl,hb3⟩:=hrel
                have L3:=Hd hb3
                have LX:=Hd (L8.out.trans (hb3.mono L8.out.size))
                have KX:=Hd (K8.out.next hb3)
                have DX:=Hd ((hb3.block _ (Array.getElem?_eq_some_iff.1 D8.out).1).trans D8.out)
                have FX:=Hd ((hb3.block _ (Array.getElem?_eq_some_iff.1 F8.out).1).trans F8.out)
                clear hb3
                obtain ⟨z0,z1,z2⟩:=three_cells KX.out.box
                obtain ⟨⟨_,x1,_,_,_,_⟩,_⟩:=six_cells DX.out
                obtain ⟨⟨_,_,_,y3,_,_⟩,_⟩:=six_cells FX.out
                have hxl:=HXL.out
                cases gk with
                | zero =>
                  obtain rfl:q3=fd.fields.length:=by omega
                  go_wp2_with fail
                  go_roundg g2
                  case measure=>omega
                  case rel=>exact ⟨q2+1,by omega,by go_num,LX.out⟩
                | succ g3 =>
                  have hq3n:q3 < fd.fields.length:=by omega
                  have hq3n':(q3:Int) < (fd.fields.length:Int):=by omega
                  obtain ⟨gg,hg⟩:∃ x,fd.fields[q3]? = some x:=⟨_,List.getElem?_eq_getElem hq3n⟩
                  obtain ⟨y,hy1,hy2⟩:=HFD.out gg (List.mem_of_getElem? hg)
                  obtain ⟨bx,px,csx,rfl,hltx,hcx,hTx⟩:=rowOf_at 6 len_fld (RowT.keep (P':=fun b=>b < w8.heap.size) (fun b hb=>⟨hb,L3.out.block b hb⟩) _ _ HX8.out) hg
                  obtain ⟨Ag,kg,Ah,kh,rfl,⟨hgn,hgt⟩,_⟩:=fld_cells hTx
                  have f0:wr.cell? ⟨bx,px+q3*6,none⟩=some (.string gg.name):=hcx 0 _ rfl
                  have C2:Hid (wr.cell? ⟨bx,px+q3*6+2,none⟩=some (.string gg.tn)):=Hd (hcx 2 _ rfl)
                  have C3:Hid (wr.cell? ⟨bx,px+q3*6+2+1,none⟩=some (.int .i64 gg.tl)):=Hd (hcx 3 _ rfl)
                  have C4:Hid (wr.cell? ⟨bx,px+q3*6+2+2,none⟩=some (.int .i64 gg.tm)):=Hd (hcx 4 _ rfl)
                  have FD:=Hd (fun (wx:World) (h:Below wr.heap.size wr wx)=>FD0.out d.name gg.name HDN.out wx (KX.out.low.trans (h.mono KX.out.low.size)))
                  rw [hy1] at FD
                  have SUB:=Hd (fun (ha:y.tn.size≤9223372036854775807)=>SU0.out y.tn y.tl y.tm gg.tn gg.tl gg.tm ha hgt)
                  rw [hy2] at SUB
                  have HBX:=Hd (Nat.lt_of_lt_of_le hltx L3.out.size)
                  obtain ⟨lo,hlo⟩:∃ n,n=wr.heap.size:=⟨_,rfl⟩
                  have HLO:=Hd (Nat.le_of_eq hlo)
                  have l0:w.heap.size < lo:=by rw [hlo];exact KX.out.lt
                  have l1:gd < lo:=by rw [hlo];exact (Array.getElem?_eq_some_iff.1 DX.out).1
                  have l2:gf < lo:=by rw [hlo];exact (Array.getElem?_eq_some_iff.1 FX.out).1
                  have l3:bx < lo:=by rw [hlo];exact HBX.out
                  clear hlo hg hy1 hy2 hltx hcx hTx hgn hgt
                  go_upto_region 16 with fail
                  have HE:Hid (QL lo wr [(w.heap.size,0,(Value.slice (some ⟨bd,pd,none⟩) S.defs.length k)),(w.heap.size,1,(Value.string S.query)),(w.heap.size,2,(Value.string S.mutation)),(gd,1,(Value.string d.name)),(gf,3,(Value.slice (some ⟨bx,px,none⟩) fd.fields.length jx)),(bx,px+q3*6,(Value.string gg.name))] wr):=Hd ⟨fun cc hcc=>by
                    simp only [List.mem_cons,List.not_mem_nil,or_false] at hcc
                    rcases hcc with rfl|rfl|rfl|rfl|rfl|rfl<;>assumption,Below.refl _ _⟩
                  have HLW:Hid (∀ c,c ∈ [(w.heap.size,0,(Value.slice (some ⟨bd,pd,none⟩) S.defs.length k)),(w.heap.size,1,(Value.string S.query)),(w.heap.size,2,(Value.string S.mutation)),(gd,1,(Value.string d.name)),(gf,3,(Value.slice (some ⟨bx,px,none⟩) fd.fields.length jx)),(bx,px+q3*6,(Value.string gg.name))]→c.1 < lo):=Hd (fun cc hcc=>by
                    simp only [List.mem_cons,List.not_mem_nil,or_false] at hcc
                    rcases hcc with rfl|rfl|rfl|rfl|rfl|rfl<;>assumption)
                  refine wp_region_held_drew (S:=(fun w'=>w'.cell? ⟨w.heap.size,0,none⟩=some (Value.slice (some ⟨bd,pd,none⟩) S.defs.length k)∧w'.cell? ⟨w.heap.size,1,none⟩=some (Value.string S.query)∧w'.cell? ⟨w.heap.size,2,none⟩=some (Value.string S.mutation)∧w'.cell? ⟨gd,1,none⟩=some (Value.string d.name)∧w'.cell? ⟨gf,3,none⟩=some (Value.slice (some ⟨bx,px,none⟩) fd.fields.length jx)∧w'.cell? ⟨bx,px+q3*6,none⟩=some (Value.string gg.name)∧QL lo wr [(w.heap.size,0,(Value.slice (some ⟨bd,pd,none⟩) S.defs.length k)),(w.heap.size,1,(Value.string S.query)),(w.heap.size,2,(Value.string S.mutation)),(gd,1,(Value.string d.name)),(gf,3,(Value.slice (some ⟨bx,px,none⟩) fd.fields.length jx)),(bx,px+q3*6,(Value.string gg.name))] w')) (by kernel_rfl) (q6_written (HE.out.next HLW.out (Below.drew (Below.refl _ _)))) (fun hHeld=>?_)
                  refine wpAnyH_take (i:=0) (oi:=_) (v:=?_) rfl (by kernel_rfl) (by kernel_rfl) (by kernel_rfl) (fun _ _ _ h=>h) (Or.inl ⟨by rfl,?_⟩) (by assumption) ?_
                  rotate_left
                  · (intro w hSw;(try dsimp only at hSw);go_simp;try with_reducible rfl)
                  try simp only [Act.put,List.getElem_toArray,List.getElem_cons_zero,List.setIfInBounds_toArray,List.set_cons_zero,List.set_cons_succ]
                  refine wpAnyH_take (i:=1) (oi:=_) (v:=?_) rfl (by kernel_rfl) (by kernel_rfl) (by kernel_rfl) (fun _ _ _ h=>h) (Or.inl ⟨by rfl,?_⟩) (by assumption) ?_
                  rotate_left
                  · (intro w hSw;(try dsimp only at hSw);go_simp;try with_reducible rfl)
                  try simp only [Act.put,List.getElem_toArray,List.getElem_cons_zero,List.getElem_cons_succ,List.setIfInBounds_toArray,List.set_cons_zero,List.set_cons_succ]
                  refine wpAnyH_take (i:=2) (oi:=_) (v:=?_) rfl (by kernel_rfl) (by kernel_rfl) (by kernel_rfl) (fun _ _ _ h=>h) (Or.inl ⟨by rfl,?_⟩) (by assumption) ?_
                  rotate_left
                  · (intro w hSw;(try dsimp only at hSw);go_simp;try with_reducible rfl)
                  try simp only [Act.put,List.getElem_toArray,List.getElem_cons_zero,List.getElem_cons_succ,List.setIfInBounds_toArray,List.set_cons_zero,List.set_cons_succ]
                  refine wpAnyH_take (i:=3) (oi:=_) (v:=?_) rfl (by kernel_rfl) (by kernel_rfl) (by kernel_rfl) (fun _ _ _ h=>h) (Or.inl ⟨by rfl,?_⟩) (by assumption) ?_
                  rotate_left
                  · (intro w hSw;(try dsimp only at hSw);go_simp;try with_reducible rfl)
                  try simp only [Act.put,List.getElem_toArray,List.getElem_cons_zero,List.getElem_cons_succ,List.setIfInBounds_toArray,List.set_cons_zero,List.set_cons_succ]
                  refine wpAnyH_take (i:=4) (oi:=_) (v:=?_) rfl (by kernel_rfl) (by kernel_rfl) (by kernel_rfl) (fun _ _ _ h=>h) (Or.inl ⟨by rfl,?_⟩) (by assumption) ?_
                  rotate_left
                  · (intro w hSw;(try dsimp only at hSw);go_simp;try with_reducible rfl)
                  try simp only [Act.put,List.getElem_toArray,List.getElem_cons_zero,List.getElem_cons_succ,List.setIfInBounds_toArray,List.set_cons_zero,List.set_cons_succ]
                  refine wpAnyH_take (i:=5) (oi:=_) (v:=?_) rfl (by kernel_rfl) (by kernel_rfl) (by kernel_rfl) (fun _ _ _ h=>h) (Or.inl ⟨by rfl,?_⟩) (by assumption) ?_
                  rotate_left
                  · (intro w hSw;(try dsimp only at hSw);go_simp;try with_reducible rfl)
                  try simp only [Act.put,List.getElem_toArray,List.getElem_cons_zero,List.getElem_cons_succ,List.setIfInBounds_toArray,List.set_cons_zero,List.set_cons_succ]
                  refine wpAnyH_take (i:=6) (oi:=_) (v:=?_) rfl (by kernel_rfl) (by kernel_rfl) (by kernel_rfl) (fun _ _ _ h=>h) (Or.inl ⟨by rfl,?_⟩) (by assumption) ?_
                  rotate_left
                  · (intro w hSw;(try dsimp only at hSw);go_simp;try with_reducible rfl)
                  try simp only [Act.put,List.getElem_toArray,List.getElem_cons_zero,List.getElem_cons_succ,List.setIfInBounds_toArray,List.set_cons_zero,List.set_cons_succ]
                  refine wpAnyH_take (i:=7) (oi:=_) (v:=?_) rfl (by kernel_rfl) (by kernel_rfl) (by kernel_rfl) (fun _ _ _ h=>h) (Or.inl ⟨by rfl,?_⟩) (by assumption) ?_
                  rotate_left
                  · (intro w hSw;(try dsimp only at hSw);go_simp;try with_reducible rfl)
                  try simp only [Act.put,List.getElem_toArray,List.getElem_cons_zero,List.getElem_cons_succ,List.setIfInBounds_toArray,List.set_cons_zero,List.set_cons_succ]
                  refine wpAnyH_take (i:=8) (oi:=_) (v:=?_) rfl (by kernel_rfl) (by kernel_rfl) (by kernel_rfl) (fun _ _ _ h=>h) (Or.inl ⟨by rfl,?_⟩) (by assumption) ?_
                  rotate_left
                  · (intro w hSw;(try dsimp only at hSw);go_simp;try with_reducible rfl)
                  try simp only [Act.put,List.getElem_toArray,List.getElem_cons_zero,List.getElem_cons_succ,List.setIfInBounds_toArray,List.set_cons_zero,List.set_cons_succ]
                  refine wpAnyH_ready (rs:=[9,13]) (by kernel_rfl) (by simp) ?_
                  refine AllReadyH.cons (o:=_) rfl (fun K hK=>?_) (AllReadyH.cons (o:=_) rfl (fun K hK=>?_) AllReadyH.nil)
                  focus
                    go_simp
                    refine (FD.out _ (Below.drew (Below.refl _ _))).mono ?_
                    rintro e wc ⟨e0,e1,e2,e3,e4,e5,rfl,hT,hb⟩
                    have HFU:=Hd ((Below.drew (Below.refl _ _):Below wr.heap.size wr _).trans (hb.mono (Below.drew (Below.refl _ _):Below wr.heap.size wr _).size))
                    have HBL:=Hd (hb.mono (Nat.le_trans HLO.out (Below.drew (Below.refl _ _):Below wr.heap.size wr _).size))
                    obtain ⟨Ap,kp2,Ad,kd2,e,hys,_⟩:=fld_cells hT
                    simp only [List.cons.injEq,and_true] at e
                    obtain ⟨rfl,rfl,rfl,rfl,rfl,rfl⟩:=e
                    have HYS:=Hd hys
                    clear hys
                    clear hb hT
                    go_wp2_with fail
                    refine hK.out _ _ (q6_written (QL.next (q6_last (by assumption)) HLW.out HBL.out)) (fun hHeld=>?_)
                    clear hK K
                    try simp only [Act.put,List.getElem_toArray,List.getElem_cons_zero,List.getElem_cons_succ,List.setIfInBounds_toArray,List.set_cons_zero,List.set_cons_succ]
                    refine wpAnyH_take (i:=10) (oi:=_) (v:=?_) rfl (by kernel_rfl) (by kernel_rfl) (by kernel_rfl) (fun _ _ _ h=>h) (Or.inl ⟨by rfl,?_⟩) (by assumption) ?_
                    rotate_left
                    · (intro w hSw;(try dsimp only at hSw);go_simp;try with_reducible rfl)
                    try simp only [Act.put,List.getElem_toArray,List.getElem_cons_zero,List.getElem_cons_succ,List.setIfInBounds_toArray,List.set_cons_zero,List.set_cons_succ]
                    refine wpAnyH_take (i:=11) (oi:=_) (v:=?_) rfl (by kernel_rfl) (by kernel_rfl) (by kernel_rfl) (fun _ _ _ h=>h) (Or.inl ⟨by rfl,?_⟩) (by assumption) ?_
                    rotate_left
                    · (intro w hSw;(try dsimp only at hSw);go_simp;try with_reducible rfl)
                    try simp only [Act.put,List.getElem_toArray,List.getElem_cons_zero,List.getElem_cons_succ,List.setIfInBounds_toArray,List.set_cons_zero,List.set_cons_succ]
                    refine wpAnyH_take (i:=12) (oi:=_) (v:=?_) rfl (by kernel_rfl) (by kernel_rfl) (by kernel_rfl) (fun _ _ _ h=>h) (Or.inl ⟨by rfl,?_⟩) (by assumption) ?_
                    rotate_left
                    · (intro w hSw;(try dsimp only at hSw);go_simp;try with_reducible rfl)
                    try simp only [Act.put,List.getElem_toArray,List.getElem_cons_zero,List.getElem_cons_succ,List.setIfInBounds_toArray,List.set_cons_zero,List.set_cons_succ]
                    refine wpAnyH_ready (rs:=[13]) (by kernel_rfl) (by simp) ?_
                    refine AllReadyH.cons (o:=_) rfl (fun K hK=>?_) AllReadyH.nil
                    go_simp
                    have HBL:=Hd ((dbelow_new wc (.cells #[.string ⟨#[]⟩,.slice none 0 0,.string ⟨#[]⟩,.int .i64 0,.int .i64 0,.slice none 0 0] 46)).mono (Nat.le_trans HLO.out HFU.out.size))
                    have HFV:=Hd (HFU.out.trans ((dbelow_new wc (.cells #[.string ⟨#[]⟩,.slice none 0 0,.string ⟨#[]⟩,.int .i64 0,.int .i64 0,.slice none 0 0] 46)).mono HFU.out.size))
                    have HZ:=Hd (heap_alloc_new wc (.cells #[.string ⟨#[]⟩,.slice none 0 0,.string ⟨#[]⟩,.int .i64 0,.int .i64 0,.slice none 0 0] 46))
                    have HGZ:=Hd (HFU.out.size)
                    generalize wc.alloc (.cells #[.string ⟨#[]⟩,.slice none 0 0,.string ⟨#[]⟩,.int .i64 0,.int .i64 0,.slice none 0 0] 46)=we at HBL HFV HZ ⊢
                    generalize wc.heap.size=gn at HZ HGZ ⊢
                    refine hK.out _ _ (q6_written (QL.next (q6_last (by assumption)) HLW.out HBL.out)) (fun hHeld=>?_)
                    clear hK K
                    try simp only [Act.put,List.getElem_toArray,List.getElem_cons_zero,List.getElem_cons_succ,List.setIfInBounds_toArray,List.set_cons_zero,List.set_cons_succ]
                    clear HFU
                  rotate_left
                  focus
                    go_simp
                    have hdr:Below (wr.alloc (.cells #[.string ⟨#[]⟩,.slice none 0 0,.string ⟨#[]⟩,.int .i64 0,.int .i64 0,.slice none 0 0] 46)).heap.size (wr.alloc (.cells #[.string ⟨#[]⟩,.slice none 0 0,.string ⟨#[]⟩,.int .i64 0,.int .i64 0,.slice none 0 0] 46)) (wr.alloc (.cells #[.string ⟨#[]⟩,.slice none 0 0,.string ⟨#[]⟩,.int .i64 0,.int .i64 0,.slice none 0 0] 46)).drew:=Below.drew (Below.refl _ _)
                    have HFU:=Hd ((dbelow_new wr (.cells #[.string ⟨#[]⟩,.slice none 0 0,.string ⟨#[]⟩,.int .i64 0,.int .i64 0,.slice none 0 0] 46)).trans (hdr.mono (dbelow_new wr (.cells #[.string ⟨#[]⟩,.slice none 0 0,.string ⟨#[]⟩,.int .i64 0,.int .i64 0,.slice none 0 0] 46)).size))
                    have HBL:=Hd (HFU.out.mono HLO.out)
                    have HZ:=Hd ((hdr.block _ (by simp)).trans (heap_alloc_new wr (.cells #[.string ⟨#[]⟩,.slice none 0 0,.string ⟨#[]⟩,.int .i64 0,.int .i64 0,.slice none 0 0] 46)))
                    generalize (wr.alloc (.cells #[.string ⟨#[]⟩,.slice none 0 0,.string ⟨#[]⟩,.int .i64 0,.int .i64 0,.slice none 0 0] 46)).drew=wb at HBL HFU HZ ⊢
                    obtain ⟨gn,hgn⟩:∃ g,wr.heap.size=g:=⟨_,rfl⟩
                    have HGZ:=Hd (Nat.le_of_eq hgn)
                    rw [hgn] at HZ ⊢
                    clear hdr hgn
                    refine hK.out _ _ (q6_written (HE.out.next HLW.out HBL.out)) (fun hHeld=>?_)
                    clear hK K
                    try simp only [Act.put,List.getElem_toArray,List.getElem_cons_zero,List.getElem_cons_succ,List.setIfInBounds_toArray,List.set_cons_zero,List.set_cons_succ]
                    refine wpAnyH_ready (rs:=[9]) (by kernel_rfl) (by simp) ?_
                    refine AllReadyH.cons (o:=_) rfl (fun K hK=>?_) AllReadyH.nil
                    go_simp
                    refine (FD.out _ HFU.out).mono ?_
                    rintro e we ⟨e0,e1,e2,e3,e4,e5,rfl,hT,hb⟩
                    have HFV:=Hd (HFU.out.trans (hb.mono HFU.out.size))
                    have HBL:=Hd (hb.mono (Nat.le_trans HLO.out HFU.out.size))
                    have HGB:=Hd (Array.getElem?_eq_some_iff.1 HZ.out).1
                    have HZ:=Hd ((hb.block _ (Array.getElem?_eq_some_iff.1 HZ.out).1).trans HZ.out)
                    obtain ⟨Ap,kp2,Ad,kd2,e,hys,_⟩:=fld_cells hT
                    simp only [List.cons.injEq,and_true] at e
                    obtain ⟨rfl,rfl,rfl,rfl,rfl,rfl⟩:=e
                    have HYS:=Hd hys
                    clear hys
                    clear hb hT HGB
                    go_wp2_with fail
                    refine hK.out _ _ (q6_written (QL.next (q6_last (by assumption)) HLW.out HBL.out)) (fun hHeld=>?_)
                    clear hK K
                    try simp only [Act.put,List.getElem_toArray,List.getElem_cons_zero,List.getElem_cons_succ,List.setIfInBounds_toArray,List.set_cons_zero,List.set_cons_succ]
                    refine wpAnyH_take (i:=10) (oi:=_) (v:=?_) rfl (by kernel_rfl) (by kernel_rfl) (by kernel_rfl) (fun _ _ _ h=>h) (Or.inl ⟨by rfl,?_⟩) (by assumption) ?_
                    rotate_left
                    · (intro w hSw;(try dsimp only at hSw);go_simp;try with_reducible rfl)
                    try simp only [Act.put,List.getElem_toArray,List.getElem_cons_zero,List.getElem_cons_succ,List.setIfInBounds_toArray,List.set_cons_zero,List.set_cons_succ]
                    refine wpAnyH_take (i:=11) (oi:=_) (v:=?_) rfl (by kernel_rfl) (by kernel_rfl) (by kernel_rfl) (fun _ _ _ h=>h) (Or.inl ⟨by rfl,?_⟩) (by assumption) ?_
                    rotate_left
                    · (intro w hSw;(try dsimp only at hSw);go_simp;try with_reducible rfl)
                    try simp only [Act.put,List.getElem_toArray,List.getElem_cons_zero,List.getElem_cons_succ,List.setIfInBounds_toArray,List.set_cons_zero,List.set_cons_succ]
                    refine wpAnyH_take (i:=12) (oi:=_) (v:=?_) rfl (by kernel_rfl) (by kernel_rfl) (by kernel_rfl) (fun _ _ _ h=>h) (Or.inl ⟨by rfl,?_⟩) (by assumption) ?_
                    rotate_left
                    · (intro w hSw;(try dsimp only at hSw);go_simp;try with_reducible rfl)
                    try simp only [Act.put,List.getElem_toArray,List.getElem_cons_zero,List.getElem_cons_succ,List.setIfInBounds_toArray,List.set_cons_zero,List.set_cons_succ]
                    clear HFU
                  all_goals
                    refine wpAnyH_ready (rs:=[14]) (by kernel_rfl) (by simp) ?_
                    refine AllReadyH.cons (o:=_) rfl (fun K hK=>?_) AllReadyH.nil
                    obtain ⟨⟨u0,u1,u2,u3,u4,u5⟩,v0,v1,v2,v3,v4,v5⟩:=six_cells HZ.out
                    go_simp
                    clear u0 u1 u2 u3 u4 u5 v0 v1 v2 v3 v4 v5
                    have HBL:=Hd (six_low (c0:=.string y.name) (c1:=.slice Ap y.params.length kp2) (c2:=.string y.tn) (c3:=.int .i64 y.tl) (c4:=.int .i64 y.tm) (c5:=.slice Ad y.dirs.length kd2) (Below.refl lo we) (Nat.le_trans HLO.out HGZ.out))
                    refine hK.out _ _ (q6_written (QL.next (q6_last (by assumption)) HLW.out HBL.out)) (fun hHeld=>?_)
                    clear hK K
                    try simp only [Act.put,List.getElem_toArray,List.getElem_cons_zero,List.getElem_cons_succ,List.setIfInBounds_toArray,List.set_cons_zero,List.set_cons_succ]
                    refine wpAnyH_take (i:=15) (oi:=_) (v:=?_) rfl (by kernel_rfl) (by kernel_rfl) (by kernel_rfl) (fun _ _ _ h=>h) (Or.inl ⟨by rfl,?_⟩) (by assumption) ?_
                    rotate_left
                    · (intro w hSw;(try dsimp only at hSw);go_simp;try with_reducible rfl)
                    try simp only [Act.put,List.getElem_toArray,List.getElem_cons_zero,List.getElem_cons_succ,List.setIfInBounds_toArray,List.set_cons_zero,List.set_cons_succ]
                    refine wpAnyH_done (by kernel_rfl) ?_ _
                    clear hHeld
                    have B7:=Hd (six_low (c0:=.string y.name) (c1:=.slice Ap y.params.length kp2) (c2:=.string y.tn) (c3:=.int .i64 y.tl) (c4:=.int .i64 y.tm) (c5:=.slice Ad y.dirs.length kd2) HFV.out HGZ.out)
                    have Y7:=Hd (six_set (c0:=.string y.name) (c1:=.slice Ap y.params.length kp2) (c2:=.string y.tn) (c3:=.int .i64 y.tl) (c4:=.int .i64 y.tm) (c5:=.slice Ad y.dirs.length kd2) HZ.out)
                    generalize (((((we.setCell ⟨gn,0,none⟩ (.string y.name)).setCell ⟨gn,1,none⟩ (.slice Ap y.params.length kp2)).setCell ⟨gn,2,none⟩ (.string y.tn)).setCell ⟨gn,3,none⟩ (.int .i64 y.tl)).setCell ⟨gn,4,none⟩ (.int .i64 y.tm)).setCell ⟨gn,5,none⟩ (.slice Ad y.dirs.length kd2)=w9 at B7 Y7 ⊢
                    have K9:=Hd (KX.out.next B7.out)
                    have D9:=Hd ((B7.out.block _ (Array.getElem?_eq_some_iff.1 DX.out).1).trans DX.out)
                    have F9:=Hd ((B7.out.block _ (Array.getElem?_eq_some_iff.1 FX.out).1).trans FX.out)
                    have L9:=Hd (L3.out.trans (B7.out.mono L3.out.size))
                    have f2:=(B7.out.cell (p:=⟨bx,px+q3*6+2,none⟩) HBX.out).trans C2.out
                    have f3:=(B7.out.cell (p:=⟨bx,px+q3*6+2+1,none⟩) HBX.out).trans C3.out
                    have f4:=(B7.out.cell (p:=⟨bx,px+q3*6+2+2,none⟩) HBX.out).trans C4.out
                    have HBX9:=Hd (Nat.lt_of_lt_of_le HBX.out B7.out.size)
                    clear HE HLW HBL HFV HZ HGZ HLO FD KX DX FX LX L3 HBX C2 C3 C4 B7
                    have SU:=fun (wx:World) (h:Below w9.heap.size w9 wx)=>SUB.out HYS.out.2 wx (K9.out.low.trans (h.mono K9.out.low.size))
                    go_upto_region 17 with fail
                    obtain ⟨wr,hwr⟩:∃ x,x=w9:=⟨_,rfl⟩
                    subst hwr
                    obtain ⟨lo,hlo⟩:∃ n,n=wr.heap.size:=⟨_,rfl⟩
                    have HLO:=Hd (Nat.le_of_eq hlo)
                    have HLO2:=Hd (Nat.le_of_eq hlo.symm)
                    obtain ⟨z0,z1,z2⟩:=three_cells K9.out.box
                    obtain ⟨⟨_,_,_,x3,_,_⟩,_⟩:=six_cells F9.out
                    obtain ⟨⟨_,_,y2,y3,y4,_⟩,_⟩:=six_cells Y7.out
                    have l0:w.heap.size < lo:=by rw [hlo];exact K9.out.lt
                    have l1:gn < lo:=by rw [hlo];exact (Array.getElem?_eq_some_iff.1 Y7.out).1
                    have l2:gf < lo:=by rw [hlo];exact (Array.getElem?_eq_some_iff.1 F9.out).1
                    have l3:bx < lo:=by rw [hlo];exact HBX9.out
                    clear hlo
                    have HE:Hid (QL lo wr [(w.heap.size,0,(Value.slice (some ⟨bd,pd,none⟩) S.defs.length k)),(w.heap.size,1,(Value.string S.query)),(w.heap.size,2,(Value.string S.mutation)),(gn,2,(Value.string y.tn)),(gn,3,(Value.int .i64 y.tl)),(gn,4,(Value.int .i64 y.tm)),(gf,3,(Value.slice (some ⟨bx,px,none⟩) fd.fields.length jx)),(bx,px+q3*6+2,(Value.string gg.tn)),(bx,px+q3*6+2+1,(Value.int .i64 gg.tl)),(bx,px+q3*6+2+2,(Value.int .i64 gg.tm))] wr):=Hd ⟨fun cc hcc=>by
                      simp only [List.mem_cons,List.not_mem_nil,or_false] at hcc
                      rcases hcc with rfl|rfl|rfl|rfl|rfl|rfl|rfl|rfl|rfl|rfl<;>assumption,Below.refl _ _⟩
                    have HLW:Hid (∀ c,c ∈ [(w.heap.size,0,(Value.slice (some ⟨bd,pd,none⟩) S.defs.length k)),(w.heap.size,1,(Value.string S.query)),(w.heap.size,2,(Value.string S.mutation)),(gn,2,(Value.string y.tn)),(gn,3,(Value.int .i64 y.tl)),(gn,4,(Value.int .i64 y.tm)),(gf,3,(Value.slice (some ⟨bx,px,none⟩) fd.fields.length jx)),(bx,px+q3*6+2,(Value.string gg.tn)),(bx,px+q3*6+2+1,(Value.int .i64 gg.tl)),(bx,px+q3*6+2+2,(Value.int .i64 gg.tm))]→c.1 < lo):=Hd (fun cc hcc=>by
                      simp only [List.mem_cons,List.not_mem_nil,or_false] at hcc
                      rcases hcc with rfl|rfl|rfl|rfl|rfl|rfl|rfl|rfl|rfl|rfl<;>assumption)
                    refine wp_region_held_drew (S:=(fun w'=>w'.cell? ⟨w.heap.size,0,none⟩=some (Value.slice (some ⟨bd,pd,none⟩) S.defs.length k)∧w'.cell? ⟨w.heap.size,1,none⟩=some (Value.string S.query)∧w'.cell? ⟨w.heap.size,2,none⟩=some (Value.string S.mutation)∧w'.cell? ⟨gn,2,none⟩=some (Value.string y.tn)∧w'.cell? ⟨gn,3,none⟩=some (Value.int .i64 y.tl)∧w'.cell? ⟨gn,4,none⟩=some (Value.int .i64 y.tm)∧w'.cell? ⟨gf,3,none⟩=some (Value.slice (some ⟨bx,px,none⟩) fd.fields.length jx)∧w'.cell? ⟨bx,px+q3*6+2,none⟩=some (Value.string gg.tn)∧w'.cell? ⟨bx,px+q3*6+2+1,none⟩=some (Value.int .i64 gg.tl)∧w'.cell? ⟨bx,px+q3*6+2+2,none⟩=some (Value.int .i64 gg.tm)∧QL lo wr [(w.heap.size,0,(Value.slice (some ⟨bd,pd,none⟩) S.defs.length k)),(w.heap.size,1,(Value.string S.query)),(w.heap.size,2,(Value.string S.mutation)),(gn,2,(Value.string y.tn)),(gn,3,(Value.int .i64 y.tl)),(gn,4,(Value.int .i64 y.tm)),(gf,3,(Value.slice (some ⟨bx,px,none⟩) fd.fields.length jx)),(bx,px+q3*6+2,(Value.string gg.tn)),(bx,px+q3*6+2+1,(Value.int .i64 gg.tl)),(bx,px+q3*6+2+2,(Value.int .i64 gg.tm))] w')) (by kernel_rfl) (qt_written (HE.out.next HLW.out (Below.drew (Below.refl _ _)))) (fun hHeld=>?_)
                    refine wpAnyH_take (i:=0) (oi:=_) (v:=?_) rfl (by kernel_rfl) (by kernel_rfl) (by kernel_rfl) (fun _ _ _ h=>h) (Or.inl ⟨by rfl,?_⟩) (by assumption) ?_
                    rotate_left
                    · (intro w hSw;(try dsimp only at hSw);go_simp;try with_reducible rfl)
                    try simp only [Act.put,List.getElem_toArray,List.getElem_cons_zero,List.setIfInBounds_toArray,List.set_cons_zero,List.set_cons_succ]
                    refine wpAnyH_take (i:=1) (oi:=_) (v:=?_) rfl (by kernel_rfl) (by kernel_rfl) (by kernel_rfl) (fun _ _ _ h=>h) (Or.inl ⟨by rfl,?_⟩) (by assumption) ?_
                    rotate_left
                    · (intro w hSw;(try dsimp only at hSw);go_simp;try with_reducible rfl)
                    try simp only [Act.put,List.getElem_toArray,List.getElem_cons_zero,List.getElem_cons_succ,List.setIfInBounds_toArray,List.set_cons_zero,List.set_cons_succ]
                    refine wpAnyH_take (i:=2) (oi:=_) (v:=?_) rfl (by kernel_rfl) (by kernel_rfl) (by kernel_rfl) (fun _ _ _ h=>h) (Or.inl ⟨by rfl,?_⟩) (by assumption) ?_
                    rotate_left
                    · (intro w hSw;(try dsimp only at hSw);go_simp;try with_reducible rfl)
                    try simp only [Act.put,List.getElem_toArray,List.getElem_cons_zero,List.getElem_cons_succ,List.setIfInBounds_toArray,List.set_cons_zero,List.set_cons_succ]
                    refine wpAnyH_take (i:=3) (oi:=_) (v:=?_) rfl (by kernel_rfl) (by kernel_rfl) (by kernel_rfl) (fun _ _ _ h=>h) (Or.inl ⟨by rfl,?_⟩) (by assumption) ?_
                    rotate_left
                    · (intro w hSw;(try dsimp only at hSw);go_simp;try with_reducible rfl)
                    try simp only [Act.put,List.getElem_toArray,List.getElem_cons_zero,List.getElem_cons_succ,List.setIfInBounds_toArray,List.set_cons_zero,List.set_cons_succ]
                    refine wpAnyH_take (i:=4) (oi:=_) (v:=?_) rfl (by kernel_rfl) (by kernel_rfl) (by kernel_rfl) (fun _ _ _ h=>h) (Or.inl ⟨by rfl,?_⟩) (by assumption) ?_
                    rotate_left
                    · (intro w hSw;(try dsimp only at hSw);go_simp;try with_reducible rfl)
                    try simp only [Act.put,List.getElem_toArray,List.getElem_cons_zero,List.getElem_cons_succ,List.setIfInBounds_toArray,List.set_cons_zero,List.set_cons_succ]
                    refine wpAnyH_take (i:=5) (oi:=_) (v:=?_) rfl (by kernel_rfl) (by kernel_rfl) (by kernel_rfl) (fun _ _ _ h=>h) (Or.inl ⟨by rfl,?_⟩) (by assumption) ?_
                    rotate_left
                    · (intro w hSw;(try dsimp only at hSw);go_simp;try with_reducible rfl)
                    try simp only [Act.put,List.getElem_toArray,List.getElem_cons_zero,List.getElem_cons_succ,List.setIfInBounds_toArray,List.set_cons_zero,List.set_cons_succ]
                    refine wpAnyH_take (i:=6) (oi:=_) (v:=?_) rfl (by kernel_rfl) (by kernel_rfl) (by kernel_rfl) (fun _ _ _ h=>h) (Or.inl ⟨by rfl,?_⟩) (by assumption) ?_
                    rotate_left
                    · (intro w hSw;(try dsimp only at hSw);go_simp;try with_reducible rfl)
                    try simp only [Act.put,List.getElem_toArray,List.getElem_cons_zero,List.getElem_cons_succ,List.setIfInBounds_toArray,List.set_cons_zero,List.set_cons_succ]
                    refine wpAnyH_take (i:=7) (oi:=_) (v:=?_) rfl (by kernel_rfl) (by kernel_rfl) (by kernel_rfl) (fun _ _ _ h=>h) (Or.inl ⟨by rfl,?_⟩) (by assumption) ?_
                    rotate_left
                    · (intro w hSw;(try dsimp only at hSw);go_simp;try with_reducible rfl)
                    try simp only [Act.put,List.getElem_toArray,List.getElem_cons_zero,List.getElem_cons_succ,List.setIfInBounds_toArray,List.set_cons_zero,List.set_cons_succ]
                    refine wpAnyH_take (i:=8) (oi:=_) (v:=?_) rfl (by kernel_rfl) (by kernel_rfl) (by kernel_rfl) (fun _ _ _ h=>h) (Or.inl ⟨by rfl,?_⟩) (by assumption) ?_
                    rotate_left
                    · (intro w hSw;(try dsimp only at hSw);go_simp;try with_reducible rfl)
                    try simp only [Act.put,List.getElem_toArray,List.getElem_cons_zero,List.getElem_cons_succ,List.setIfInBounds_toArray,List.set_cons_zero,List.set_cons_succ]
                    refine wpAnyH_take (i:=9) (oi:=_) (v:=?_) rfl (by kernel_rfl) (by kernel_rfl) (by kernel_rfl) (fun _ _ _ h=>h) (Or.inl ⟨by rfl,?_⟩) (by assumption) ?_
                    rotate_left
                    · (intro w hSw;(try dsimp only at hSw);go_simp;try with_reducible rfl)
                    try simp only [Act.put,List.getElem_toArray,List.getElem_cons_zero,List.getElem_cons_succ,List.setIfInBounds_toArray,List.set_cons_zero,List.set_cons_succ]
                    refine wpAnyH_take (i:=10) (oi:=_) (v:=?_) rfl (by kernel_rfl) (by kernel_rfl) (by kernel_rfl) (fun _ _ _ h=>h) (Or.inl ⟨by rfl,?_⟩) (by assumption) ?_
                    rotate_left
                    · (intro w hSw;(try dsimp only at hSw);go_simp;try with_reducible rfl)
                    try simp only [Act.put,List.getElem_toArray,List.getElem_cons_zero,List.getElem_cons_succ,List.setIfInBounds_toArray,List.set_cons_zero,List.set_cons_succ]
                    refine wpAnyH_take (i:=11) (oi:=_) (v:=?_) rfl (by kernel_rfl) (by kernel_rfl) (by kernel_rfl) (fun _ _ _ h=>h) (Or.inl ⟨by rfl,?_⟩) (by assumption) ?_
                    rotate_left
                    · (intro w hSw;(try dsimp only at hSw);go_simp;try with_reducible rfl)
                    try simp only [Act.put,List.getElem_toArray,List.getElem_cons_zero,List.getElem_cons_succ,List.setIfInBounds_toArray,List.set_cons_zero,List.set_cons_succ]
                    refine wpAnyH_ready (rs:=[12]) (by kernel_rfl) (by simp) ?_
                    refine AllReadyH.cons (o:=_) rfl (fun K hK=>?_) AllReadyH.nil
                    go_simp
                    refine (SU _ (below_at HLO2.out (qt_held (by assumption)))).mono ?_
                    rintro e w' ⟨rfl,hb⟩
                    go_wp2_with fail
                    have HBL:=Hd (hb.mono (Nat.le_trans HLO.out (qt_held (by assumption)).size))
                    refine hK.out _ _ (qt_written (QL.next (qt_last (by assumption)) HLW.out HBL.out)) (fun hHeld=>?_)
                    clear hK K
                    try simp only [Act.put,List.getElem_toArray,List.getElem_cons_zero,List.getElem_cons_succ,List.setIfInBounds_toArray,List.set_cons_zero,List.set_cons_succ]
                    refine wpAnyH_take (i:=13) (oi:=_) (v:=?_) rfl (by kernel_rfl) (by kernel_rfl) (by kernel_rfl) (fun _ _ _ h=>h) (Or.inl ⟨by rfl,?_⟩) (by assumption) ?_
                    rotate_left
                    · (intro w hSw;(try dsimp only at hSw);go_simp;try with_reducible rfl)
                    try simp only [Act.put,List.getElem_toArray,List.getElem_cons_zero,List.getElem_cons_succ,List.setIfInBounds_toArray,List.set_cons_zero,List.set_cons_succ]
                    refine wpAnyH_take (i:=14) (oi:=_) (v:=?_) rfl (by kernel_rfl) (by kernel_rfl) (by kernel_rfl) (fun _ _ _ h=>h) (Or.inl ⟨by rfl,?_⟩) (by assumption) ?_
                    rotate_left
                    · (intro w hSw;(try dsimp only at hSw);go_simp;try with_reducible rfl)
                    try simp only [Act.put,List.getElem_toArray,List.getElem_cons_zero,List.getElem_cons_succ,List.setIfInBounds_toArray,List.set_cons_zero,List.set_cons_succ]
                    refine wpAnyH_done (by kernel_rfl) ?_ _
                    have BF:=Hd (below_at HLO2.out (qt_held hHeld))
                    have LF:=Hd (L9.out.trans (BF.out.mono L9.out.size))
                    clear hHeld HE HLW HLO z0 z1 z2 x3 y2 y3 y4 f2 f3 f4 l0 l1 l2 l3
                    go_wp2_with fail
                    go_roundg g3
                    case measure=>omega
                    case rel=>exact ⟨q3+1,by omega,by go_num,LF.out⟩
end Go.Proofs.YtaekdfcpbepepaaGreatDoor.LSFaces
