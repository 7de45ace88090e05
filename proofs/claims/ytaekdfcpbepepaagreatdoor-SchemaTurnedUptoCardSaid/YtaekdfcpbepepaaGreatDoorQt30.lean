/- schema.byName over Par. (gen_map.py wrote it.) -/
import Derived.Test.YtaekdfcpbepepaaGreatDoorQt29
set_option maxRecDepth 100000
set_option maxHeartbeats 8000000
namespace Go.Proofs.YtaekdfcpbepepaaGreatDoor
open Go.RowKit
theorem bynamePar_any (fn:Nat) (nmf:VarT→ByteArray) (l:List VarT) (A:Option Addr) (c:Nat) (w:World) (B:Nat) (hB:B≤w.heap.size) (hl:l.length < maxLen) (hR:RowT w (fun b=>b < B) (rowOf encVar l) A)
  (he:∀ (args:Array Value) (w:World),(callFunc fn args).run Tryz.prog w=.ok (.enter fn args) w) (hf:∀ x,x ∈ l→∀ (cs:List Value) (W:World),Below w.heap.size w W→TS W (fun b=>b < B) (encVar x) cs→Calls Tryz.prog fn #[.agg cs.toArray] W fun e W'=>e=.returned (.string (nmf x))∧Below W.heap.size W W') (hs:∀ x,x ∈ l→(nmf x).size≤maxLen) :
  Calls Tryz.prog 151 #[.slice A l.length c,.func (.func fn) #[] #[]] w fun e w'=>e=.returned (.map (some w.heap.size))∧(∃ D,w'.ownsMap Tryz.prog 9 R0 w.heap.size l.length D∧KeysD D (onceL (l.map nmf)))∧Below w.heap.size w w':=by
 have hmm:=fun (n:Int) (w:World)=>run_makeMapN (P:=Tryz.prog) Tryz.underlying150 n w
 have HR:=Hd hR
 have HF:=Hd hf
 have HB:=Hd hB
 have HS:=Hd hs
 have HZ:=Hd hl
 have hl':l.length≤9223372036854775807:=by unfold maxLen at hl;omega
 have B0:=Hd (dbelow_new w (.map #[] 0))
 have M0:=Hd (World.ownsMap_made w Tryz.prog 9 R0)
 clear hR hf hB hs hl
 go_enter Tryz.func151,Tryz.ntmps151
 go_wp2_with fail
 clear hmm
 go_loopg [13] l.length (fun g i wx=>∃ q:Nat,q+g=l.length∧i=.int .i64 q∧Aside ((∃ D:DataW Unit,wx.ownsMap Tryz.prog 9 R0 w.heap.size q D∧KeysD D (onceL ((l.map nmf).take q)))∧Below w.heap.size w wx))
 case atStart=>exact ⟨0,by omega,rfl,Blk.Aside.intro ⟨⟨_,M0.out,KeysD.nil⟩,B0.out⟩⟩
 case round =>
  obtain ⟨q,hq,rfl,HX⟩:=hrel
  obtain ⟨⟨D,hm,hD⟩,hb⟩:=HX.out
  have HM:=Hd hm
  have HD:=Hd hD
  have BX:=Hd hb
  clear HX hb hm hD
  cases gk with
  | zero =>
    obtain rfl:q=l.length:=by omega
    have HD':=HD.out
    rw [List.take_of_length_le (by simp)] at HD'
    have HD2:=Hd HD'
    clear HD' HD
    go_wp2_with fail
    go_ret
    exact ⟨rfl,⟨D,HM.out,HD2.out⟩,BX.out⟩
  | succ g =>
    have hqn:q < l.length:=by omega
    have hqn':(q:Int) < (l.length:Int):=by omega
    obtain ⟨x,hx⟩:∃ x,l[q]? = some x:=⟨_,List.getElem?_eq_getElem hqn⟩
    have hxn:(l.map nmf)[q]? = some (nmf x):=by rw [List.getElem?_map,hx];rfl
    have hkey:=WideMaps.keyOf_string_mk (P:=Tryz.prog) Tryz.underlying9 (s:=nmf x) (HS.out x (List.mem_of_getElem? hx))
    have HK:=Hd (once_take hxn)
    have HMAX:q < maxLen:=by have:=HZ.out;omega
    obtain ⟨b,o,cs,rfl,hb,hc,hT⟩:=rowOf_at 10 len_par HR.out hx
    have HBL:=Hd (Nat.lt_of_lt_of_le hb HB.out)
    have hT':=TS.low (BX.out.mono HB.out) hT
    obtain ⟨A3,k3,A4,k4,rfl,_⟩:=var_cells hT
    have g0:=(BX.out.cell (p:=⟨b,o+q*10,none⟩) HBL.out).trans (hc 0 _ rfl)
    have g1:=(BX.out.cell (p:=⟨b,o+q*10+1,none⟩) HBL.out).trans (hc 1 _ rfl)
    have g2:=(BX.out.cell (p:=⟨b,o+q*10+2,none⟩) HBL.out).trans (hc 2 _ rfl)
    have g3:=(BX.out.cell (p:=⟨b,o+q*10+3,none⟩) HBL.out).trans (hc 3 _ rfl)
    have g4:=(BX.out.cell (p:=⟨b,o+q*10+4,none⟩) HBL.out).trans (hc 4 _ rfl)
    have g5:=(BX.out.cell (p:=⟨b,o+q*10+5,none⟩) HBL.out).trans (hc 5 _ rfl)
    have g6:=(BX.out.cell (p:=⟨b,o+q*10+6,none⟩) HBL.out).trans (hc 6 _ rfl)
    have g7:=(BX.out.cell (p:=⟨b,o+q*10+7,none⟩) HBL.out).trans (hc 7 _ rfl)
    have g8:=(BX.out.cell (p:=⟨b,o+q*10+8,none⟩) HBL.out).trans (hc 8 _ rfl)
    have g9:=(BX.out.cell (p:=⟨b,o+q*10+9,none⟩) HBL.out).trans (hc 9 _ rfl)
    have HT':=Hd hT'
    have CF:=Hd (HF.out x (List.mem_of_getElem? hx))
    generalize nmf x=nx at CF HK hkey
    clear hx hxn hb hT hT' hc
    go_upto_region 5 with fail
    clear g0 g1 g2 g3 g4 g5 g6 g7 g8 g9
    have bn:=dbelow_new wr (.cells #[.string x.name,.string x.tn,.int .i64 x.tl,.int .i64 x.tm,.bool x.has,.int .i64 x.v.kd,.int .i64 x.v.nn,.string x.v.ss,.slice A3 x.v.ls.len k3,.slice A4 x.v.ms.len k4] 60)
    have B2:=Hd (BX.out.trans (bn.mono BX.out.size))
    have TT:=Hd (TS.low (bn.mono (Nat.le_trans HB.out BX.out.size)) HT'.out)
    have CF:=Hd (fun (wx:World) (h:Below (wr.alloc (.cells #[.string x.name,.string x.tn,.int .i64 x.tl,.int .i64 x.tm,.bool x.has,.int .i64 x.v.kd,.int .i64 x.v.nn,.string x.v.ss,.slice A3 x.v.ls.len k3,.slice A4 x.v.ms.len k4] 60)).heap.size (wr.alloc (.cells #[.string x.name,.string x.tn,.int .i64 x.tl,.int .i64 x.tm,.bool x.has,.int .i64 x.v.kd,.int .i64 x.v.nn,.string x.v.ss,.slice A3 x.v.ls.len k3,.slice A4 x.v.ms.len k4] 60)) wx)=>CF.out _ wx (B2.out.trans (h.mono B2.out.size)) (TS.low (h.mono (Nat.le_trans HB.out B2.out.size)) TT.out))
    have Y2:=Hd (heap_alloc_new wr (.cells #[.string x.name,.string x.tn,.int .i64 x.tl,.int .i64 x.tm,.bool x.has,.int .i64 x.v.kd,.int .i64 x.v.nn,.string x.v.ss,.slice A3 x.v.ls.len k3,.slice A4 x.v.ms.len k4] 60))
    have M2:=Hd (map_on HM.out bn)
    have HGB:=Hd (HM.out.lt)
    generalize wr.alloc (.cells #[.string x.name,.string x.tn,.int .i64 x.tl,.int .i64 x.tm,.bool x.has,.int .i64 x.v.kd,.int .i64 x.v.nn,.string x.v.ss,.slice A3 x.v.ls.len k3,.slice A4 x.v.ms.len k4] 60)=w2 at B2 Y2 CF M2 TT ⊢
    generalize wr.heap.size=gb at Y2 HGB ⊢
    clear bn HM BX
    have HLO:=Hd B2.out.size
    have HE:Hid (QL w.heap.size w2 [(gb,0,(Value.string x.name)),(gb,1,(Value.string x.tn)),(gb,2,(Value.int .i64 x.tl)),(gb,3,(Value.int .i64 x.tm)),(gb,4,(Value.bool x.has)),(gb,5,(Value.int .i64 x.v.kd)),(gb,6,(Value.int .i64 x.v.nn)),(gb,7,(Value.string x.v.ss)),(gb,8,(Value.slice A3 x.v.ls.len k3)),(gb,9,(Value.slice A4 x.v.ms.len k4))] w2):=Hd (by
      obtain ⟨⟨g0,g1,g2,g3,g4,g5,g6,g7,g8,g9⟩,_⟩:=ten_cells Y2.out
      refine ⟨fun p hp=>?_,Below.refl _ _⟩
      simp only [List.mem_cons,List.not_mem_nil,or_false] at hp
      rcases hp with rfl|rfl|rfl|rfl|rfl|rfl|rfl|rfl|rfl|rfl<;>assumption)
    have HLW:Hid (∀ p,p ∈ [(gb,0,(Value.string x.name)),(gb,1,(Value.string x.tn)),(gb,2,(Value.int .i64 x.tl)),(gb,3,(Value.int .i64 x.tm)),(gb,4,(Value.bool x.has)),(gb,5,(Value.int .i64 x.v.kd)),(gb,6,(Value.int .i64 x.v.nn)),(gb,7,(Value.string x.v.ss)),(gb,8,(Value.slice A3 x.v.ls.len k3)),(gb,9,(Value.slice A4 x.v.ms.len k4))]→p.1 < w2.heap.size):=Hd (fun p hp=>by
      have l1:=(Array.getElem?_eq_some_iff.1 Y2.out).1
      simp only [List.mem_cons,List.not_mem_nil,or_false] at hp
      rcases hp with rfl|rfl|rfl|rfl|rfl|rfl|rfl|rfl|rfl|rfl<;>assumption)
    have HNE:Hid (∀ g,(some w.heap.size:Option Nat)=some g→w.heap.size≤g∧∀ p,p ∈ [(gb,0,(Value.string x.name)),(gb,1,(Value.string x.tn)),(gb,2,(Value.int .i64 x.tl)),(gb,3,(Value.int .i64 x.tm)),(gb,4,(Value.bool x.has)),(gb,5,(Value.int .i64 x.v.kd)),(gb,6,(Value.int .i64 x.v.nn)),(gb,7,(Value.string x.v.ss)),(gb,8,(Value.slice A3 x.v.ls.len k3)),(gb,9,(Value.slice A4 x.v.ms.len k4))]→p.1 ≠ g):=Hd (fun g hg=>by
      injection hg with hg
      subst hg
      refine ⟨Nat.le_refl _,fun p hp=>?_⟩
      have l1:=HGB.out
      simp only [List.mem_cons,List.not_mem_nil,or_false] at hp
      rcases hp with rfl|rfl|rfl|rfl|rfl|rfl|rfl|rfl|rfl|rfl<;>(dsimp only;omega))
    refine wp_region_held_drew (S:=(fun w'=>w'.cell? ⟨gb,0,none⟩=some (Value.string x.name)∧w'.cell? ⟨gb,1,none⟩=some (Value.string x.tn)∧w'.cell? ⟨gb,2,none⟩=some (Value.int .i64 x.tl)∧w'.cell? ⟨gb,3,none⟩=some (Value.int .i64 x.tm)∧w'.cell? ⟨gb,4,none⟩=some (Value.bool x.has)∧w'.cell? ⟨gb,5,none⟩=some (Value.int .i64 x.v.kd)∧w'.cell? ⟨gb,6,none⟩=some (Value.int .i64 x.v.nn)∧w'.cell? ⟨gb,7,none⟩=some (Value.string x.v.ss)∧w'.cell? ⟨gb,8,none⟩=some (Value.slice A3 x.v.ls.len k3)∧w'.cell? ⟨gb,9,none⟩=some (Value.slice A4 x.v.ms.len k4)∧QL w.heap.size w2 [(gb,0,(Value.string x.name)),(gb,1,(Value.string x.tn)),(gb,2,(Value.int .i64 x.tl)),(gb,3,(Value.int .i64 x.tm)),(gb,4,(Value.bool x.has)),(gb,5,(Value.int .i64 x.v.kd)),(gb,6,(Value.int .i64 x.v.nn)),(gb,7,(Value.string x.v.ss)),(gb,8,(Value.slice A3 x.v.ls.len k3)),(gb,9,(Value.slice A4 x.v.ms.len k4))] w')) (by kernel_rfl) (qmpar_written (HE.out.full HLW.out HLO.out (Below.drew (Below.refl _ _)))) (fun hHeld=>?_)
    refine wpAnyH_take (i:=0) (oi:=_) (v:=?_) rfl (by kernel_rfl) (by kernel_rfl) (by kernel_rfl) (fun _ _ _ h=>h) (Or.inl ⟨by rfl,?_⟩) (by assumption) ?_
    rotate_left
    · (intro w hSw;(try dsimp only at hSw);go_simp;try with_reducible rfl)
    try simp only [Act.put,List.getElem_toArray,List.getElem_cons_zero,List.setIfInBounds_toArray,List.set_cons_zero,List.set_cons_succ]
    refine wpAnyH_take (i:=1) (oi:=_) (v:=?_) rfl (by kernel_rfl) (by kernel_rfl) (by kernel_rfl) (fun _ _ _ h=>h) (Or.inl ⟨by rfl,?_⟩) (by assumption) ?_
    rotate_left
    · (intro w hSw;(try dsimp only at hSw);go_simp;try with_reducible rfl)
    try simp only [Act.put,List.getElem_toArray,List.getElem_cons_zero,List.getElem_cons_succ,List.setIfInBounds_toArray,List.set_cons_zero,List.set_cons_succ]
    refine wpAnyH_take (i:=2) (oi:=_) (v:=?_) rfl (by kernel_rfl) (by kernel_rfl) (by kernel_rfl) (fun _ _ _ h=>h) (Or.inl ⟨by rfl,?_⟩) (by assumption) ?_
    rotate_left
    · (intro w hSw;(try dsimp only at hSw);go_simp;try with_reducible rfl)
    try simp only [Act.put,List.getElem_toArray,List.getElem_cons_zero,List.getElem_cons_succ,List.setIfInBounds_toArray,List.set_cons_zero,List.set_cons_succ]
    refine wpAnyH_take (i:=4) (oi:=_) (v:=?_) rfl (by kernel_rfl) (by kernel_rfl) (by kernel_rfl) (fun _ _ _ h=>h) (Or.inl ⟨by rfl,?_⟩) (by assumption) ?_
    rotate_left
    · (intro w hSw;(try dsimp only at hSw);go_simp;try with_reducible rfl)
    try simp only [Act.put,List.getElem_toArray,List.getElem_cons_zero,List.getElem_cons_succ,List.setIfInBounds_toArray,List.set_cons_zero,List.set_cons_succ]
    refine wpAnyH_ready (rs:=[3]) (by kernel_rfl) (by simp) ?_
    refine AllReadyH.cons (o:=_) rfl (fun K hK=>?_) AllReadyH.nil
    go_simp
    refine (CF.out _ (Below.drew (Below.refl _ _))).mono ?_
    rintro e wc ⟨rfl,hb⟩
    have HFU:=Hd ((Below.drew (Below.refl _ _):Below w2.heap.size w2 _).trans (hb.mono (Below.drew (Below.refl _ _):Below w2.heap.size w2 _).size))
    have HBC:=Hd hb
    clear hb
    go_wp2_with fail
    refine hK.out _ _ (qmpar_written (QL.full (qmpar_last (by assumption)) HLW.out HLO.out HBC.out)) (fun hHeld=>?_)
    clear hK K
    try simp only [Act.put,List.getElem_toArray,List.getElem_cons_zero,List.getElem_cons_succ,List.setIfInBounds_toArray,List.set_cons_zero,List.set_cons_succ]
    refine wpAnyH_ready (rs:=[5]) (by kernel_rfl) (by simp) ?_
    refine AllReadyH.cons (o:=_) rfl (fun K hK=>?_) AllReadyH.nil
    refine step_mapput rfl _ _ _ 150 rfl 9 _ (Maps.string_keyed Tryz.underlying9) Tryz.underlying150 w.heap.size q D rfl (map_on M2.out HFU.out) HMAX _ _ _ rfl rfl hkey ?_
    intro w5 hm5 hg5
    have HM5:=Hd hm5
    have HG5:=Hd hg5
    clear hm5 hg5
    refine hK.out _ _ (qmpar_written (QL.grown (qmpar_last (by assumption)) HLW.out HNE.out HLO.out HG5.out)) (fun hHeld=>?_)
    clear hK K
    try simp only [Act.put,List.getElem_toArray,List.getElem_cons_zero,List.getElem_cons_succ]
    refine wpAnyH_done (by kernel_rfl) ?_ _
    clear hHeld
    have B5:=Hd (below_grown (B:=w.heap.size) (B2.out.trans (HFU.out.mono B2.out.size)) HG5.out (Nat.le_trans B2.out.size HFU.out.size) (fun b hb=>by injection hb with hb;omega))
    clear HE HLW HNE HFU HBC Y2 M2 HLO HGB B2 HG5 TT CF
    go_wp2_with fail
    go_roundg g
    case measure=>omega
    case rel=>exact ⟨q+1,by omega,by go_num,Blk.Aside.intro ⟨⟨_,HM5.out,by rw [HK.out];exact HD.out.put nx⟩,B5.out⟩⟩
def diffB (xs:List ByteArray):Bool:=((onceL xs).length:Int) == (xs.length:Int)
theorem itself_any (s:ByteArray) (w:World):Calls Tryz.prog 105 #[.string s] w fun e w'=>e=.returned (.string s)∧Below w.heap.size w w':=by
 go_enter Tryz.func105,Tryz.ntmps105
 go_wp2_with fail
 go_ret
 exact ⟨rfl,Below.refl _ _⟩
theorem defName_any (x:DefnT) (cs:List Value) (w:World) (B:Nat) (hT:TS w (fun b=>b < B) (encDefn x) cs):Calls Tryz.prog 98 #[.agg cs.toArray] w fun e w'=>e=.returned (.string x.name)∧Below w.heap.size w w':=by
 obtain ⟨Af,kf,Ax,kx,Ap,kp,Am,km,rfl,_⟩:=defn_cells hT
 have B1:=Hd (dbelow_new w (.cells #[.int .i64 x.kind,.string x.name,.slice Af x.faces.length kf,.slice Ax x.fields.length kx,.slice Ap x.parts.length kp,.slice Am x.params.length km] 37))
 have Y1:=Hd (heap_alloc_new w (.cells #[.int .i64 x.kind,.string x.name,.slice Af x.faces.length kf,.slice Ax x.fields.length kx,.slice Ap x.parts.length kp,.slice Am x.params.length km] 37))
 clear hT
 go_enter Tryz.func98,Tryz.ntmps98
 go_upto_region 1 with fail
 generalize w.alloc (.cells #[.int .i64 x.kind,.string x.name,.slice Af x.faces.length kf,.slice Ax x.fields.length kx,.slice Ap x.parts.length kp,.slice Am x.params.length km] 37)=w1 at B1 Y1 ⊢
 obtain ⟨⟨y0,y1,y2,y3,y4,y5⟩,_⟩:=six_cells Y1.out
 go_wp2_with fail
 go_ret
 exact ⟨rfl,B1.out⟩
theorem fieldName_any (x:FieldT) (cs:List Value) (w:World) (B:Nat) (hT:TS w (fun b=>b < B) (encField x) cs):Calls Tryz.prog 101 #[.agg cs.toArray] w fun e w'=>e=.returned (.string x.name)∧Below w.heap.size w w':=by
 obtain ⟨Ap,kp,Ad,kd,rfl,_⟩:=fld_cells hT
 have B1:=Hd (dbelow_new w (.cells #[.string x.name,.slice Ap x.params.length kp,.string x.tn,.int .i64 x.tl,.int .i64 x.tm,.slice Ad x.dirs.length kd] 46))
 have Y1:=Hd (heap_alloc_new w (.cells #[.string x.name,.slice Ap x.params.length kp,.string x.tn,.int .i64 x.tl,.int .i64 x.tm,.slice Ad x.dirs.length kd] 46))
 clear hT
 go_enter Tryz.func101,Tryz.ntmps101
 go_upto_region 1 with fail
 generalize w.alloc (.cells #[.string x.name,.slice Ap x.params.length kp,.string x.tn,.int .i64 x.tl,.int .i64 x.tm,.slice Ad x.dirs.length kd] 46)=w1 at B1 Y1 ⊢
 obtain ⟨⟨y0,y1,y2,y3,y4,y5⟩,_⟩:=six_cells Y1.out
 go_wp2_with fail
 go_ret
 exact ⟨rfl,B1.out⟩
theorem paramName_any (x:VarT) (cs:List Value) (w:World) (B:Nat) (hT:TS w (fun b=>b < B) (encVar x) cs):Calls Tryz.prog 103 #[.agg cs.toArray] w fun e w'=>e=.returned (.string x.name)∧Below w.heap.size w w':=by
 obtain ⟨A3,k3,A4,k4,rfl,_⟩:=var_cells hT
 have B1:=Hd (dbelow_new w (.cells #[.string x.name,.string x.tn,.int .i64 x.tl,.int .i64 x.tm,.bool x.has,.int .i64 x.v.kd,.int .i64 x.v.nn,.string x.v.ss,.slice A3 x.v.ls.len k3,.slice A4 x.v.ms.len k4] 60))
 have Y1:=Hd (heap_alloc_new w (.cells #[.string x.name,.string x.tn,.int .i64 x.tl,.int .i64 x.tm,.bool x.has,.int .i64 x.v.kd,.int .i64 x.v.nn,.string x.v.ss,.slice A3 x.v.ls.len k3,.slice A4 x.v.ms.len k4] 60))
 clear hT
 go_enter Tryz.func103,Tryz.ntmps103
 go_upto_region 1 with fail
 generalize w.alloc (.cells #[.string x.name,.string x.tn,.int .i64 x.tl,.int .i64 x.tm,.bool x.has,.int .i64 x.v.kd,.int .i64 x.v.nn,.string x.v.ss,.slice A3 x.v.ls.len k3,.slice A4 x.v.ms.len k4] 60)=w1 at B1 Y1 ⊢
 obtain ⟨⟨y0,y1,y2,y3,y4,y5,y6,y7,y8,y9⟩,_⟩:=ten_cells Y1.out
 go_wp2_with fail
 go_ret
 exact ⟨rfl,B1.out⟩
theorem differStr_any (l:List ByteArray) (A:Option Addr) (c:Nat) (w:World) (B:Nat) (hB:B≤w.heap.size) (hl:l.length < maxLen) (hR:RowT w (fun b=>b < B) (rowOf encStr l) A) (hz:∀ x,x ∈ l→x.size≤maxLen) :
  Calls Tryz.prog 104 #[.slice A l.length c,.func (.func 105) #[] #[]] w fun e w'=>e=.returned (.bool (diffB (l.map (fun x=>x))))∧Below w.heap.size w w':=by
 have BY:=Hd (bynameStr_any 105 (fun x=>x) l A c w B hB hl hR (Go.Proofs.enters_of Tryz.func105 (by kernel_rfl) rfl) (fun x _ W _=>itself_any x W) hz)
 have HE:Hid (diffB (l.map (fun x=>x))=(((onceL (l.map (fun x=>x))).length:Int) == ((l.map (fun x=>x)).length:Int))):=Hd rfl
 have hlm:(l.map (fun x=>x)).length=l.length:=by simp
 rw [hlm] at HE
 generalize diffB (l.map (fun x=>x))=r at HE ⊢
 generalize onceL (l.map (fun x=>x))=xs at BY HE
 clear hB hl hR hz hlm
 go_enter Tryz.func104,Tryz.ntmps104
 go_wp2_with fail
 refine BY.out.mono ?_
 rintro e w2 ⟨rfl,⟨D,hm,hD⟩,hb⟩
 have hln:=fun ty=>hm.len Tryz.underlying117 ty
 rw [hD.2.2] at hln
 have HB:=Hd hb
 clear hb hm hD
 go_wp2_with fail
 go_ret
 exact ⟨by rw [HE.out];rfl,HB.out⟩
theorem differDef_any (l:List DefnT) (A:Option Addr) (c:Nat) (w:World) (B:Nat) (hB:B≤w.heap.size) (hl:l.length < maxLen) (hR:RowT w (fun b=>b < B) (rowOf encDefn l) A) (hz:∀ x,x ∈ l→x.name.size≤maxLen) :
  Calls Tryz.prog 97 #[.slice A l.length c,.func (.func 98) #[] #[]] w fun e w'=>e=.returned (.bool (diffB (l.map (fun x=>x.name))))∧Below w.heap.size w w':=by
 have BY:=Hd (bynameDef_any 98 (fun x=>x.name) l A c w B hB hl hR (Go.Proofs.enters_of Tryz.func98 (by kernel_rfl) rfl) (fun x _ cs W _ hT=>defName_any x cs W B hT) hz)
 have HE:Hid (diffB (l.map (fun x=>x.name))=(((onceL (l.map (fun x=>x.name))).length:Int) == ((l.map (fun x=>x.name)).length:Int))):=Hd rfl
 have hlm:(l.map (fun x=>x.name)).length=l.length:=by simp
 rw [hlm] at HE
 generalize diffB (l.map (fun x=>x.name))=r at HE ⊢
 generalize onceL (l.map (fun x=>x.name))=xs at BY HE
 clear hB hl hR hz hlm
 go_enter Tryz.func97,Tryz.ntmps97
 go_wp2_with fail
 refine BY.out.mono ?_
 rintro e w2 ⟨rfl,⟨D,hm,hD⟩,hb⟩
 have hln:=fun ty=>hm.len Tryz.underlying148 ty
 rw [hD.2.2] at hln
 have HB:=Hd hb
 clear hb hm hD
 go_wp2_with fail
 go_ret
 exact ⟨by rw [HE.out];rfl,HB.out⟩
theorem differFld_any (l:List FieldT) (A:Option Addr) (c:Nat) (w:World) (B:Nat) (hB:B≤w.heap.size) (hl:l.length < maxLen) (hR:RowT w (fun b=>b < B) (rowOf encField l) A) (hz:∀ x,x ∈ l→x.name.size≤maxLen) :
  Calls Tryz.prog 100 #[.slice A l.length c,.func (.func 101) #[] #[]] w fun e w'=>e=.returned (.bool (diffB (l.map (fun x=>x.name))))∧Below w.heap.size w w':=by
 have BY:=Hd (bynameFld_any 101 (fun x=>x.name) l A c w B hB hl hR (Go.Proofs.enters_of Tryz.func101 (by kernel_rfl) rfl) (fun x _ cs W _ hT=>fieldName_any x cs W B hT) hz)
 have HE:Hid (diffB (l.map (fun x=>x.name))=(((onceL (l.map (fun x=>x.name))).length:Int) == ((l.map (fun x=>x.name)).length:Int))):=Hd rfl
 have hlm:(l.map (fun x=>x.name)).length=l.length:=by simp
 rw [hlm] at HE
 generalize diffB (l.map (fun x=>x.name))=r at HE ⊢
 generalize onceL (l.map (fun x=>x.name))=xs at BY HE
 clear hB hl hR hz hlm
 go_enter Tryz.func100,Tryz.ntmps100
 go_wp2_with fail
 refine BY.out.mono ?_
 rintro e w2 ⟨rfl,⟨D,hm,hD⟩,hb⟩
 have hln:=fun ty=>hm.len Tryz.underlying120 ty
 rw [hD.2.2] at hln
 have HB:=Hd hb
 clear hb hm hD
 go_wp2_with fail
 go_ret
 exact ⟨by rw [HE.out];rfl,HB.out⟩
theorem differPar_any (l:List VarT) (A:Option Addr) (c:Nat) (w:World) (B:Nat) (hB:B≤w.heap.size) (hl:l.length < maxLen) (hR:RowT w (fun b=>b < B) (rowOf encVar l) A) (hz:∀ x,x ∈ l→x.name.size≤maxLen) :
  Calls Tryz.prog 102 #[.slice A l.length c,.func (.func 103) #[] #[]] w fun e w'=>e=.returned (.bool (diffB (l.map (fun x=>x.name))))∧Below w.heap.size w w':=by
 have BY:=Hd (bynamePar_any 103 (fun x=>x.name) l A c w B hB hl hR (Go.Proofs.enters_of Tryz.func103 (by kernel_rfl) rfl) (fun x _ cs W _ hT=>paramName_any x cs W B hT) hz)
 have HE:Hid (diffB (l.map (fun x=>x.name))=(((onceL (l.map (fun x=>x.name))).length:Int) == ((l.map (fun x=>x.name)).length:Int))):=Hd rfl
 have hlm:(l.map (fun x=>x.name)).length=l.length:=by simp
 rw [hlm] at HE
 generalize diffB (l.map (fun x=>x.name))=r at HE ⊢
 generalize onceL (l.map (fun x=>x.name))=xs at BY HE
 clear hB hl hR hz hlm
 go_enter Tryz.func102,Tryz.ntmps102
 go_wp2_with fail
 refine BY.out.mono ?_
 rintro e w2 ⟨rfl,⟨D,hm,hD⟩,hb⟩
 have hln:=fun ty=>hm.len Tryz.underlying150 ty
 rw [hD.2.2] at hln
 have HB:=Hd hb
 clear hb hm hD
 go_wp2_with fail
 go_ret
 exact ⟨by rw [HE.out];rfl,HB.out⟩
def namOkB (d:DefnT):Bool:=!(resB d.name || leafD [] d.name)
noncomputable def rule1B (S:SchT):Bool:=S.defs.all namOkB && (schB S && diffB (S.defs.map fun x=>x.name))
theorem rule1_any (S:SchT) (hm:ModS S) (hp:PartS S) (hlen:S.defs.length < maxLen) (hnz:∀ d,d ∈ S.defs→d.name.size≤maxLen) (c0 c1 c2:Value) (w:World) (B:Nat) (hB:B≤w.heap.size) (hS:TS w (fun b=>b < B) (encSch S) [c0,c1,c2]) (hw:Laid5 w) :
  Calls Tryz.prog 54 #[.agg #[c0,c1,c2]] w fun e w'=>e=.returned (.bool (rule1B S))∧Below w.heap.size w w':=by
 have SR1:=Hd (fun (wx:World) (hb:Below w.heap.size w wx)=>sdl_right S hm hp c0 c1 c2 wx B (Nat.le_trans hB hb.size) (TS.low (hb.mono hB) hS) (hw.below hb))
 obtain ⟨A,k,e,hl,hR⟩:=sch_cells hS
 injection e with e0 e
 injection e with e1 e
 injection e with e2 e
 subst e0 e1 e2
 have DF:=Hd (fun (wx:World) (hb:Below w.heap.size w wx)=>differDef_any S.defs A k wx B (Nat.le_trans hB hb.size) hlen (RowT.below (hb.mono hB) hR) hnz)
 have HR:=Hd hR
 have HB:=Hd hB
 have B1:=Hd (dbelow_new w (.cells #[.slice A S.defs.length k,.string S.query,.string S.mutation] 24))
 have Y1:=Hd (heap_alloc_new w (.cells #[.slice A S.defs.length k,.string S.query,.string S.mutation] 24))
 have HE:Hid (rule1B S=(S.defs.all namOkB && (schB S && diffB (S.defs.map fun x=>x.name)))):=Hd rfl
 generalize schB S=sb at SR1 HE
 generalize diffB (S.defs.map fun x=>x.name)=db at DF HE
 clear hB hS hR e hm hp hw hnz hlen
 go_enter Tryz.func54,Tryz.ntmps54
 go_upto_region 1 with fail
 generalize w.alloc (.cells #[.slice A S.defs.length k,.string S.query,.string S.mutation] 24)=w1 at B1 Y1 ⊢
 obtain ⟨y0,y1,y2⟩:=three_cells Y1.out
 go_wp2_with fail
 go_loopg [8] S.defs.length (fun g i wx=>∃ q:Nat,q+g=S.defs.length∧i=.int .i64 q∧Aside ((S.defs.take q).all namOkB=true∧Below w.heap.size w wx∧wx.heap[w.heap.size]? = some (.cells #[.slice A S.defs.length k,.string S.query,.string S.mutation] 24 (0,0))))
 case atStart=>exact ⟨0,by omega,rfl,Blk.Aside.intro ⟨rfl,B1.out,Y1.out⟩⟩
 case round =>
  obtain ⟨q,hq,rfl,HX⟩:=hrel
  have HI:=Hd HX.out.1
  have BX:=Hd HX.out.2.1
  have YX:=Hd HX.out.2.2
  clear HX B1 Y1 y0 y1 y2
  cases gk with
  | zero =>
    obtain rfl:q=S.defs.length:=by omega
    have HA:=Hd (all_take_end HI.out)
    obtain ⟨y0,y1,y2⟩:=three_cells YX.out
    go_wp2_with fail
    refine (SR1.out _ BX.out).mono ?_
    rintro e w2 ⟨rfl,hb⟩
    have B2:=Hd (BX.out.trans (hb.mono BX.out.size))
    have Y2:=Hd ((hb.block _ (Array.getElem?_eq_some_iff.1 YX.out).1).trans YX.out)
    clear hb y0 y1 y2 YX BX
    cases sb with
    | false =>
      go_wp2_with fail
      go_ret
      exact ⟨by rw [HE.out,HA.out];rfl,B2.out⟩
    | true =>
      obtain ⟨y0,y1,y2⟩:=three_cells Y2.out
      go_wp2_with fail
      refine (DF.out _ B2.out).mono ?_
      rintro e w3 ⟨rfl,hb⟩
      have B3:=Hd (B2.out.trans (hb.mono B2.out.size))
      clear hb y0 y1 y2 Y2
      go_wp2_with fail
      go_ret
      exact ⟨by rw [HE.out,HA.out];rfl,B3.out⟩
  | succ g =>
    have hqn:q < S.defs.length:=by omega
    have hqn':(q:Int) < (S.defs.length:Int):=by omega
    obtain ⟨d,hx⟩:∃ x,S.defs[q]? = some x:=⟨_,List.getElem?_eq_getElem hqn⟩
    obtain ⟨b,o,cs,rfl,hb,hc,hT⟩:=rowOf_at 6 defn_len HR.out hx
    have HBL:=Hd (Nat.lt_of_lt_of_le hb HB.out)
    obtain ⟨Af,kf,Ax,kx,Ap,kp,Am,km,rfl,hdn,_⟩:=defn_cells hT
    have g0:=(BX.out.cell (p:=⟨b,o+q*6,none⟩) HBL.out).trans (hc 0 _ rfl)
    have g1:=(BX.out.cell (p:=⟨b,o+q*6+1,none⟩) HBL.out).trans (hc 1 _ rfl)
    have g2:=(BX.out.cell (p:=⟨b,o+q*6+2,none⟩) HBL.out).trans (hc 2 _ rfl)
    have g3:=(BX.out.cell (p:=⟨b,o+q*6+3,none⟩) HBL.out).trans (hc 3 _ rfl)
    have g4:=(BX.out.cell (p:=⟨b,o+q*6+4,none⟩) HBL.out).trans (hc 4 _ rfl)
    have g5:=(BX.out.cell (p:=⟨b,o+q*6+5,none⟩) HBL.out).trans (hc 5 _ rfl)
    have HN:=Hd (fun h=>all_take_next (p:=namOkB) HI.out hx h)
    have HM:=Hd (fun h=>all_take_no (p:=namOkB) hx h)
    have HU:Hid (namOkB d = !(resB d.name || leafD [] d.name)):=Hd rfl
    have RE:=Hd (fun (wx:World)=>reserved_any d.name wx)
    have SC:=Hd (fun (wx:World)=>scalar_any d.name wx hdn)
    generalize namOkB d=ud at HN HM HU
    generalize resB d.name=rb at HU RE
    generalize leafD [] d.name=lb at HU SC
    clear hx hb hc hT
    go_upto_region 4 with fail
    clear g0 g1 g2 g3 g4 g5
    have bn:=dbelow_new wr (.cells #[.int .i64 d.kind,.string d.name,.slice Af d.faces.length kf,.slice Ax d.fields.length kx,.slice Ap d.parts.length kp,.slice Am d.params.length km] 37)
    have B2:=Hd (BX.out.trans (bn.mono BX.out.size))
    have Y2:=Hd (heap_alloc_new wr (.cells #[.int .i64 d.kind,.string d.name,.slice Af d.faces.length kf,.slice Ax d.fields.length kx,.slice Ap d.parts.length kp,.slice Am d.params.length km] 37))
    have S2:=Hd ((bn.block _ (Array.getElem?_eq_some_iff.1 YX.out).1).trans YX.out)
    generalize wr.alloc (.cells #[.int .i64 d.kind,.string d.name,.slice Af d.faces.length kf,.slice Ax d.fields.length kx,.slice Ap d.parts.length kp,.slice Am d.params.length km] 37)=w2 at B2 Y2 S2 bn ⊢
    generalize wr.heap.size=g4 at Y2 ⊢
    clear bn BX YX
    obtain ⟨⟨y0,y1,y2,y3,y4,y5⟩,_⟩:=six_cells Y2.out
    go_wp2_with fail
    refine (RE.out _).mono ?_
    rintro e w3 ⟨rfl,hb⟩
    have B3:=Hd (B2.out.trans (hb.mono B2.out.size))
    have Y3:=Hd ((hb.block _ (Array.getElem?_eq_some_iff.1 Y2.out).1).trans Y2.out)
    have S3:=Hd ((hb.block _ (Array.getElem?_eq_some_iff.1 S2.out).1).trans S2.out)
    clear hb y0 y1 y2 y3 y4 y5 Y2 B2 S2
    cases rb with
    | true =>
      have HA:=Hd (HM.out HU.out)
      go_wp2_with fail
      go_ret
      exact ⟨by rw [HE.out,HA.out];rfl,B3.out⟩
    | false =>
      obtain ⟨⟨y0,y1,y2,y3,y4,y5⟩,_⟩:=six_cells Y3.out
      go_wp2_with fail
      refine (SC.out _).mono ?_
      rintro e w4 ⟨rfl,hb⟩
      have B4:=Hd (B3.out.trans (hb.mono B3.out.size))
      have S4:=Hd ((hb.block _ (Array.getElem?_eq_some_iff.1 S3.out).1).trans S3.out)
      clear hb y0 y1 y2 y3 y4 y5 Y3 B3 S3
      cases lb with
      | true =>
        have HA:=Hd (HM.out HU.out)
        go_wp2_with fail
        go_ret
        exact ⟨by rw [HE.out,HA.out];rfl,B4.out⟩
      | false =>
        have HA:=Hd (HN.out HU.out)
        go_wp2_with fail
        go_roundg g
        case measure=>omega
        case rel=>exact ⟨q+1,by omega,by go_num,Blk.Aside.intro ⟨HA.out,B4.out,S4.out⟩⟩
def rule2B (S:SchT):Bool:=isaB S.defs S.query 1 && ((S.mutation.toList == []) || ((S.mutation.toList != S.query.toList) && isaB S.defs S.mutation 1))
theorem rule2_any (S:SchT) (c0 c1 c2:Value) (w:World) (B:Nat) (hB:B≤w.heap.size) (hz:SlimS S) (hS:TS w (fun b=>b < B) (encSch S) [c0,c1,c2]) :
   Calls Tryz.prog 55 #[.agg #[c0,c1,c2]] w fun e w'=>e=.returned (.bool (rule2B S))∧Below w.heap.size w w':=by
 obtain ⟨hq,hm⟩:=sch_sizes hS
 have I1:=Hd (fun (wx:World) (hb:Below w.heap.size w wx)=>isa_any S S.query 1 c0 c1 c2 wx B (Nat.le_trans hB hb.size) hq hz (TS.low (hb.mono hB) hS))
 have I2:=Hd (fun (wx:World) (hb:Below w.heap.size w wx)=>isa_any S S.mutation 1 c0 c1 c2 wx B (Nat.le_trans hB hb.size) hm hz (TS.low (hb.mono hB) hS))
 obtain ⟨A,k,e,hl,hR⟩:=sch_cells hS
 injection e with e0 e
 injection e with e1 e
 injection e with e2 e
 subst e0 e1 e2
 have HE:Hid (rule2B S=(isaB S.defs S.query 1 && ((S.mutation.toList == []) || ((S.mutation.toList != S.query.toList) && isaB S.defs S.mutation 1)))):=Hd rfl
 generalize rule2B S=r at HE ⊢
 generalize isaB S.defs S.query 1=q1 at I1 HE
 generalize isaB S.defs S.mutation 1=q2 at I2 HE
 have B1:=Hd (dbelow_new w (.cells #[.slice A S.defs.length k,.string S.query,.string S.mutation] 24))
 have Y1:=Hd (heap_alloc_new w (.cells #[.slice A S.defs.length k,.string S.query,.string S.mutation] 24))
 obtain ⟨m0,hm0⟩:∃ b,(S.mutation.toList == [])=b:=⟨_,rfl⟩
 have hem:S.mutation.toList.isEmpty=m0:=by rw [← hm0];cases S.mutation.toList<;>rfl
 obtain ⟨mq,hmq⟩:∃ b,(S.mutation.toList == S.query.toList)=b:=⟨_,rfl⟩
 have hmq':(S.mutation.toList != S.query.toList) = !mq:=by rw [← hmq];rfl
 rw [hm0,hmq'] at HE
 clear hB hS hR hz e
 go_enter Tryz.func55,Tryz.ntmps55
 go_upto_region 1 with fail
 generalize w.alloc (.cells #[.slice A S.defs.length k,.string S.query,.string S.mutation] 24)=w1 at B1 Y1 ⊢
 obtain ⟨y0,y1,y2⟩:=three_cells Y1.out
 go_wp2_with fail
 refine (I1.out _ B1.out).mono ?_
 rintro e w2 ⟨rfl,hb⟩
 have B2:=Hd (B1.out.trans (hb.mono B1.out.size))
 have Y2:=Hd ((hb.block _ (Array.getElem?_eq_some_iff.1 Y1.out).1).trans Y1.out)
 clear hb y0 y1 y2 Y1
 cases q1 with
 | false =>
   go_wp2_with fail
   go_ret
   exact ⟨by rw [HE.out];rfl,B2.out⟩
 | true =>
   obtain ⟨y0,y1,y2⟩:=three_cells Y2.out
   cases m0 with
   | true =>
     go_wp2_with fail
     go_ret
     exact ⟨by rw [HE.out];rfl,B2.out⟩
   | false =>
     cases mq with
     | true =>
       go_wp2_with fail
       go_ret
       exact ⟨by rw [HE.out];rfl,B2.out⟩
     | false =>
       go_wp2_with fail
       refine (I2.out _ B2.out).mono ?_
       rintro e w3 ⟨rfl,hb⟩
       have B3:=Hd (B2.out.trans (hb.mono B2.out.size))
       clear hb y0 y1 y2 Y2
       go_wp2_with fail
       go_ret
       exact ⟨by rw [HE.out];rfl,B3.out⟩
end Go.Proofs.YtaekdfcpbepepaaGreatDoor
