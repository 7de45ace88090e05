/- schema.byName over Par. (gen_map.py wrote it.) -/
import Derived.Test.YtaekdfcpbepepaaGreatDoorQbz
import Derived.Test.YtaekdfcpbepepaaGreatDoorQb27
set_option maxRecDepth 100000
set_option maxHeartbeats 8000000
namespace Go.Proofs.YtaekdfcpbepepaaGreatDoor
open List renaming getElem_toArray → zgA, getElem_cons_zero → zgB, getElem_cons_succ → zgC
open Go.RowKit
theorem bynamePar_any (fn:Nat) (nmf:VarT→ByteArray) (l:List VarT) (A:Option Addr) (c:Nat) (w:World) (B:Nat) (hB:B≤w.heap.size) (hl:l.length < maxLen) (hR:RowT w (fun b=>b < B) (rowOf encVar l) A)
  (he:∀ (args:Array Value) (w:World),(callFunc fn args).run Tryz.prog w=.ok (.enter fn args) w) (hf:∀ x,x ∈ l→∀ (cs:List Value) (W:World),Below w.heap.size w W→TS W (fun b=>b < B) (encVar x) cs→Calls Tryz.prog fn #[.agg cs.toArray] W fun e W'=>e=.returned (.string (nmf x))∧Below W.heap.size W W') (hs:∀ x,x ∈ l→(nmf x).size≤maxLen) :
  Calls Tryz.prog 151 #[.slice A l.length c,.func (.func fn) #[] #[]] w fun e w'=>e=.returned (.map (some w.heap.size))∧(∃ D,w'.ownsMap Tryz.prog 9 R0 w.heap.size l.length D∧KeysD D (onceL (l.map nmf)))∧Below w.heap.size w w':=by
 have hmm:=fun (n:Int) (w:World)=>run_makeMapN (P:=Tryz.prog) Tryz.underlying150 n w
 have HR:=Hd hR
 have HF:=Hd hf
 have HB:=Hd hB
 have HS:=Hd hs
 have HZ:=Hd hl
 have hl':l.length≤9223372036854775807:=by unfold maxLen at hl;omega
 have B0:=Hd (dbelow_new w (.map #[] 0))
 have M0:=Hd (World.ownsMap_made w Tryz.prog 9 R0)
 clear hR hf hB hs hl
 go_enter Tryz.func151,Tryz.ntmps151
 go_wp2_with fail
 clear hmm
 go_loopg [13] l.length (fun g i wx=>∃ q:Nat,q+g=l.length∧i=.int .i64 q∧Aside ((∃ D:DataW Unit,wx.ownsMap Tryz.prog 9 R0 w.heap.size q D∧KeysD D (onceL ((l.map nmf).take q)))∧Below w.heap.size w wx))
 case atStart=>exact ⟨0,by omega,rfl,Blk.Aside.intro ⟨⟨_,M0.out,KeysD.nil⟩,B0.out⟩⟩
 case round =>
  obtain ⟨q,hq,rfl,HX⟩:=hrel
  obtain ⟨⟨D,hm,hD⟩,hb⟩:=HX.out
  have HM:=Hd hm
  have HD:=Hd hD
  have BX:=Hd hb
  clear HX hb hm hD
  cases gk with
  | zero =>
    obtain rfl:q=l.length:=by omega
    have HD':=HD.out
    rw [List.take_of_length_le (by simp)] at HD'
    have HD2:=Hd HD'
    clear HD' HD
    go_wp2_with fail
    go_ret
    exact ⟨rfl,⟨D,HM.out,HD2.out⟩,BX.out⟩
  | succ g =>
    have hqn:q < l.length:=by omega
    have hqn':(q:Int) < (l.length:Int):=by omega
    obtain ⟨x,hx⟩:∃ x,l[q]? = some x:=⟨_,List.getElem?_eq_getElem hqn⟩
    have hxn:(l.map nmf)[q]? = some (nmf x):=by rw [List.getElem?_map,hx];rfl
    have hkey:=WideMaps.keyOf_string_mk (P:=Tryz.prog) Tryz.underlying9 (s:=nmf x) (HS.out x (List.mem_of_getElem? hx))
    have HK:=Hd (once_take hxn)
    have HMAX:q < maxLen:=by have:=HZ.out;omega
    obtain ⟨b,o,cs,rfl,hb,hc,hT⟩:=rowOf_at 10 len_par HR.out hx
    have HBL:=Hd (Nat.lt_of_lt_of_le hb HB.out)
    have hT':=TS.low (BX.out.mono HB.out) hT
    obtain ⟨A3,k3,A4,k4,rfl,_⟩:=var_cells hT
    have g0:=(BX.out.cell (p:=⟨b,o+q*10,none⟩) HBL.out).trans (hc 0 _ rfl)
    have g1:=(BX.out.cell (p:=⟨b,o+q*10+1,none⟩) HBL.out).trans (hc 1 _ rfl)
    have g2:=(BX.out.cell (p:=⟨b,o+q*10+2,none⟩) HBL.out).trans (hc 2 _ rfl)
    have g3:=(BX.out.cell (p:=⟨b,o+q*10+3,none⟩) HBL.out).trans (hc 3 _ rfl)
    have g4:=(BX.out.cell (p:=⟨b,o+q*10+4,none⟩) HBL.out).trans (hc 4 _ rfl)
    have g5:=(BX.out.cell (p:=⟨b,o+q*10+5,none⟩) HBL.out).trans (hc 5 _ rfl)
    have g6:=(BX.out.cell (p:=⟨b,o+q*10+6,none⟩) HBL.out).trans (hc 6 _ rfl)
    have g7:=(BX.out.cell (p:=⟨b,o+q*10+7,none⟩) HBL.out).trans (hc 7 _ rfl)
    have g8:=(BX.out.cell (p:=⟨b,o+q*10+8,none⟩) HBL.out).trans (hc 8 _ rfl)
    have g9:=(BX.out.cell (p:=⟨b,o+q*10+9,none⟩) HBL.out).trans (hc 9 _ rfl)
    have HT':=Hd hT'
    have CF:=Hd (HF.out x (List.mem_of_getElem? hx))
    generalize nmf x=nx at CF HK hkey
    clear hx hxn hb hT hT' hc
    go_upto_region 5 with fail
    clear g0 g1 g2 g3 g4 g5 g6 g7 g8 g9
    have bn:=dbelow_new wr (.cells #[.string x.name,.string x.tn,.int .i64 x.tl,.int .i64 x.tm,.bool x.has,.int .i64 x.v.kd,.int .i64 x.v.nn,.string x.v.ss,.slice A3 x.v.ls.len k3,.slice A4 x.v.ms.len k4] 60)
    have B2:=Hd (BX.out.trans (bn.mono BX.out.size))
    have TT:=Hd (TS.low (bn.mono (Nat.le_trans HB.out BX.out.size)) HT'.out)
    have CF:=Hd (fun (wx:World) (h:Below (wr.alloc (.cells #[.string x.name,.string x.tn,.int .i64 x.tl,.int .i64 x.tm,.bool x.has,.int .i64 x.v.kd,.int .i64 x.v.nn,.string x.v.ss,.slice A3 x.v.ls.len k3,.slice A4 x.v.ms.len k4] 60)).heap.size (wr.alloc (.cells #[.string x.name,.string x.tn,.int .i64 x.tl,.int .i64 x.tm,.bool x.has,.int .i64 x.v.kd,.int .i64 x.v.nn,.string x.v.ss,.slice A3 x.v.ls.len k3,.slice A4 x.v.ms.len k4] 60)) wx)=>CF.out _ wx (B2.out.trans (h.mono B2.out.size)) (TS.low (h.mono (Nat.le_trans HB.out B2.out.size)) TT.out))
    have Y2:=Hd (heap_alloc_new wr (.cells #[.string x.name,.string x.tn,.int .i64 x.tl,.int .i64 x.tm,.bool x.has,.int .i64 x.v.kd,.int .i64 x.v.nn,.string x.v.ss,.slice A3 x.v.ls.len k3,.slice A4 x.v.ms.len k4] 60))
    have M2:=Hd (map_on HM.out bn)
    have HGB:=Hd (HM.out.lt)
    generalize wr.alloc (.cells #[.string x.name,.string x.tn,.int .i64 x.tl,.int .i64 x.tm,.bool x.has,.int .i64 x.v.kd,.int .i64 x.v.nn,.string x.v.ss,.slice A3 x.v.ls.len k3,.slice A4 x.v.ms.len k4] 60)=w2 at B2 Y2 CF M2 TT ⊢
    generalize wr.heap.size=gb at Y2 HGB ⊢
    clear bn HM BX
    have HLO:=Hd B2.out.size
    have HE:Hid (QL w.heap.size w2 [(gb,0,(Value.string x.name)),(gb,1,(Value.string x.tn)),(gb,2,(Value.int .i64 x.tl)),(gb,3,(Value.int .i64 x.tm)),(gb,4,(Value.bool x.has)),(gb,5,(Value.int .i64 x.v.kd)),(gb,6,(Value.int .i64 x.v.nn)),(gb,7,(Value.string x.v.ss)),(gb,8,(Value.slice A3 x.v.ls.len k3)),(gb,9,(Value.slice A4 x.v.ms.len k4))] w2):=Hd (by
      obtain ⟨⟨g0,g1,g2,g3,g4,g5,g6,g7,g8,g9⟩,_⟩:=ten_cells Y2.out
      refine ⟨fun p hp=>?_,Below.refl _ _⟩
      simp only [List.mem_cons,List.not_mem_nil,or_false] at hp
      rcases hp with rfl|rfl|rfl|rfl|rfl|rfl|rfl|rfl|rfl|rfl<;>assumption)
    have HLW:Hid (∀ p,p ∈ [(gb,0,(Value.string x.name)),(gb,1,(Value.string x.tn)),(gb,2,(Value.int .i64 x.tl)),(gb,3,(Value.int .i64 x.tm)),(gb,4,(Value.bool x.has)),(gb,5,(Value.int .i64 x.v.kd)),(gb,6,(Value.int .i64 x.v.nn)),(gb,7,(Value.string x.v.ss)),(gb,8,(Value.slice A3 x.v.ls.len k3)),(gb,9,(Value.slice A4 x.v.ms.len k4))]→p.1 < w2.heap.size):=Hd (fun p hp=>by
      have l1:=(Array.getElem?_eq_some_iff.1 Y2.out).1
      simp only [List.mem_cons,List.not_mem_nil,or_false] at hp
      rcases hp with rfl|rfl|rfl|rfl|rfl|rfl|rfl|rfl|rfl|rfl<;>assumption)
    have HNE:Hid (∀ g,(some w.heap.size:Option Nat)=some g→w.heap.size≤g∧∀ p,p ∈ [(gb,0,(Value.string x.name)),(gb,1,(Value.string x.tn)),(gb,2,(Value.int .i64 x.tl)),(gb,3,(Value.int .i64 x.tm)),(gb,4,(Value.bool x.has)),(gb,5,(Value.int .i64 x.v.kd)),(gb,6,(Value.int .i64 x.v.nn)),(gb,7,(Value.string x.v.ss)),(gb,8,(Value.slice A3 x.v.ls.len k3)),(gb,9,(Value.slice A4 x.v.ms.len k4))]→p.1 ≠ g):=Hd (fun g hg=>by
      injection hg with hg
      subst hg
      refine ⟨Nat.le_refl _,fun p hp=>?_⟩
      have l1:=HGB.out
      simp only [List.mem_cons,List.not_mem_nil,or_false] at hp
      rcases hp with rfl|rfl|rfl|rfl|rfl|rfl|rfl|rfl|rfl|rfl<;>(dsimp only;omega))
    refine wp_region_held_drew (S:=(fun w'=>w'.cell? ⟨gb,0,none⟩=some (Value.string x.name)∧w'.cell? ⟨gb,1,none⟩=some (Value.string x.tn)∧w'.cell? ⟨gb,2,none⟩=some (Value.int .i64 x.tl)∧w'.cell? ⟨gb,3,none⟩=some (Value.int .i64 x.tm)∧w'.cell? ⟨gb,4,none⟩=some (Value.bool x.has)∧w'.cell? ⟨gb,5,none⟩=some (Value.int .i64 x.v.kd)∧w'.cell? ⟨gb,6,none⟩=some (Value.int .i64 x.v.nn)∧w'.cell? ⟨gb,7,none⟩=some (Value.string x.v.ss)∧w'.cell? ⟨gb,8,none⟩=some (Value.slice A3 x.v.ls.len k3)∧w'.cell? ⟨gb,9,none⟩=some (Value.slice A4 x.v.ms.len k4)∧QL w.heap.size w2 [(gb,0,(Value.string x.name)),(gb,1,(Value.string x.tn)),(gb,2,(Value.int .i64 x.tl)),(gb,3,(Value.int .i64 x.tm)),(gb,4,(Value.bool x.has)),(gb,5,(Value.int .i64 x.v.kd)),(gb,6,(Value.int .i64 x.v.nn)),(gb,7,(Value.string x.v.ss)),(gb,8,(Value.slice A3 x.v.ls.len k3)),(gb,9,(Value.slice A4 x.v.ms.len k4))] w')) (by kernel_rfl) (qmpar_written (HE.out.full HLW.out HLO.out (Below.drew (Below.refl _ _)))) (fun hHeld=>?_)
    refine ztk 0 (v:=?_) ?_ (by assumption) ?_
    rotate_left
    · (intro w hSw;(try dsimp only at hSw);go_simp;try with_reducible rfl)
    try simp only [Act.put,zgA,zgB,stT,stZ,stS]
    refine ztk 1 (v:=?_) ?_ (by assumption) ?_
    rotate_left
    · (intro w hSw;(try dsimp only at hSw);go_simp;try with_reducible rfl)
    try simp only [Act.put,zgA,zgB,zgC,stT,stZ,stS]
    refine ztk 2 (v:=?_) ?_ (by assumption) ?_
    rotate_left
    · (intro w hSw;(try dsimp only at hSw);go_simp;try with_reducible rfl)
    try simp only [Act.put,zgA,zgB,zgC,stT,stZ,stS]
    refine ztk 4 (v:=?_) ?_ (by assumption) ?_
    rotate_left
    · (intro w hSw;(try dsimp only at hSw);go_simp;try with_reducible rfl)
    try simp only [Act.put,zgA,zgB,zgC,stT,stZ,stS]
    refine wpAnyH_ready (rs:=[3]) (by kernel_rfl) (by simp) ?_
    refine AllReadyH.cons (o:=_) rfl (fun K hK=>?_) AllReadyH.nil
    go_simp
    refine (CF.out _ (Below.drew (Below.refl _ _))).mono ?_
    rintro e wc ⟨rfl,hb⟩
    have HFU:=Hd ((Below.drew (Below.refl _ _):Below w2.heap.size w2 _).trans (hb.mono (Below.drew (Below.refl _ _):Below w2.heap.size w2 _).size))
    have HBC:=Hd hb
    clear hb
    go_wp2_with fail
    refine hK.out _ _ (qmpar_written (QL.full (qmpar_last (by assumption)) HLW.out HLO.out HBC.out)) (fun hHeld=>?_)
    clear hK K
    try simp only [Act.put,zgA,zgB,zgC,stT,stZ,stS]
    refine wpAnyH_ready (rs:=[5]) (by kernel_rfl) (by simp) ?_
    refine AllReadyH.cons (o:=_) rfl (fun K hK=>?_) AllReadyH.nil
    refine step_mapput rfl _ _ _ 150 rfl 9 _ (Maps.string_keyed Tryz.underlying9) Tryz.underlying150 w.heap.size q D rfl (map_on M2.out HFU.out) HMAX _ _ _ rfl rfl hkey ?_
    intro w5 hm5 hg5
    have HM5:=Hd hm5
    have HG5:=Hd hg5
    clear hm5 hg5
    refine hK.out _ _ (qmpar_written (QL.grown (qmpar_last (by assumption)) HLW.out HNE.out HLO.out HG5.out)) (fun hHeld=>?_)
    clear hK K
    try simp only [Act.put,zgA,zgB,zgC]
    refine wpAnyH_done (by kernel_rfl) ?_ _
    clear hHeld
    have B5:=Hd (below_grown (B:=w.heap.size) (B2.out.trans (HFU.out.mono B2.out.size)) HG5.out (Nat.le_trans B2.out.size HFU.out.size) (fun b hb=>by injection hb with hb;omega))
    clear HE HLW HNE HFU HBC Y2 M2 HLO HGB B2 HG5 TT CF
    go_wp2_with fail
    go_roundg g
    case measure=>omega
    case rel=>exact ⟨q+1,by omega,by go_num,Blk.Aside.intro ⟨⟨_,HM5.out,by rw [HK.out];exact HD.out.put nx⟩,B5.out⟩⟩
def diffB (xs:List ByteArray):Bool:=((onceL xs).length:Int) == (xs.length:Int)
theorem itself_any (s:ByteArray) (w:World):Calls Tryz.prog 105 #[.string s] w fun e w'=>e=.returned (.string s)∧Below w.heap.size w w':=by
 go_enter Tryz.func105,Tryz.ntmps105
 go_wp2_with fail
 go_ret
 exact ⟨rfl,Below.refl _ _⟩
theorem defName_any (x:DefnT) (cs:List Value) (w:World) (B:Nat) (hT:TS w (fun b=>b < B) (encDefn x) cs):Calls Tryz.prog 98 #[.agg cs.toArray] w fun e w'=>e=.returned (.string x.name)∧Below w.heap.size w w':=by
 obtain ⟨Af,kf,Ax,kx,Ap,kp,Am,km,rfl,_⟩:=defn_cells hT
 have B1:=Hd (dbelow_new w (.cells #[.int .i64 x.kind,.string x.name,.slice Af x.faces.length kf,.slice Ax x.fields.length kx,.slice Ap x.parts.length kp,.slice Am x.params.length km] 37))
 have Y1:=Hd (heap_alloc_new w (.cells #[.int .i64 x.kind,.string x.name,.slice Af x.faces.length kf,.slice Ax x.fields.length kx,.slice Ap x.parts.length kp,.slice Am x.params.length km] 37))
 clear hT
 go_enter Tryz.func98,Tryz.ntmps98
 go_upto_region 1 with fail
 generalize w.alloc (.cells #[.int .i64 x.kind,.string x.name,.slice Af x.faces.length kf,.slice Ax x.fields.length kx,.slice Ap x.parts.length kp,.slice Am x.params.length km] 37)=w1 at B1 Y1 ⊢
 obtain ⟨⟨y0,y1,y2,y3,y4,y5⟩,_⟩:=six_cells Y1.out
 go_wp2_with fail
 go_ret
 exact ⟨rfl,B1.out⟩
theorem fieldName_any (x:FieldT) (cs:List Value) (w:World) (B:Nat) (hT:TS w (fun b=>b < B) (encField x) cs):Calls Tryz.prog 101 #[.agg cs.toArray] w fun e w'=>e=.returned (.string x.name)∧Below w.heap.size w w':=by
 obtain ⟨Ap,kp,Ad,kd,rfl,_⟩:=fld_cells hT
 have B1:=Hd (dbelow_new w (.cells #[.string x.name,.slice Ap x.params.length kp,.string x.tn,.int .i64 x.tl,.int .i64 x.tm,.slice Ad x.dirs.length kd] 46))
 have Y1:=Hd (heap_alloc_new w (.cells #[.string x.name,.slice Ap x.params.length kp,.string x.tn,.int .i64 x.tl,.int .i64 x.tm,.slice Ad x.dirs.length kd] 46))
 clear hT
 go_enter Tryz.func101,Tryz.ntmps101
 go_upto_region 1 with fail
 generalize w.alloc (.cells #[.string x.name,.slice Ap x.params.length kp,.string x.tn,.int .i64 x.tl,.int .i64 x.tm,.slice Ad x.dirs.length kd] 46)=w1 at B1 Y1 ⊢
 obtain ⟨⟨y0,y1,y2,y3,y4,y5⟩,_⟩:=six_cells Y1.out
 go_wp2_with fail
 go_ret
 exact ⟨rfl,B1.out⟩
theorem paramName_any (x:VarT) (cs:List Value) (w:World) (B:Nat) (hT:TS w (fun b=>b < B) (encVar x) cs):Calls Tryz.prog 103 #[.agg cs.toArray] w fun e w'=>e=.returned (.string x.name)∧Below w.heap.size w w':=by
 obtain ⟨A3,k3,A4,k4,rfl,_⟩:=var_cells hT
 have B1:=Hd (dbelow_new w (.cells #[.string x.name,.string x.tn,.int .i64 x.tl,.int .i64 x.tm,.bool x.has,.int .i64 x.v.kd,.int .i64 x.v.nn,.string x.v.ss,.slice A3 x.v.ls.len k3,.slice A4 x.v.ms.len k4] 60))
 have Y1:=Hd (heap_alloc_new w (.cells #[.string x.name,.string x.tn,.int .i64 x.tl,.int .i64 x.tm,.bool x.has,.int .i64 x.v.kd,.int .i64 x.v.nn,.string x.v.ss,.slice A3 x.v.ls.len k3,.slice A4 x.v.ms.len k4] 60))
 clear hT
 go_enter Tryz.func103,Tryz.ntmps103
 go_upto_region 1 with fail
 generalize w.alloc (.cells #[.string x.name,.string x.tn,.int .i64 x.tl,.int .i64 x.tm,.bool x.has,.int .i64 x.v.kd,.int .i64 x.v.nn,.string x.v.ss,.slice A3 x.v.ls.len k3,.slice A4 x.v.ms.len k4] 60)=w1 at B1 Y1 ⊢
 obtain ⟨⟨y0,y1,y2,y3,y4,y5,y6,y7,y8,y9⟩,_⟩:=ten_cells Y1.out
 go_wp2_with fail
 go_ret
 exact ⟨rfl,B1.out⟩
theorem differStr_any (l:List ByteArray) (A:Option Addr) (c:Nat) (w:World) (B:Nat) (hB:B≤w.heap.size) (hl:l.length < maxLen) (hR:RowT w (fun b=>b < B) (rowOf encStr l) A) (hz:∀ x,x ∈ l→x.size≤maxLen) :
  Calls Tryz.prog 104 #[.slice A l.length c,.func (.func 105) #[] #[]] w fun e w'=>e=.returned (.bool (diffB (l.map (fun x=>x))))∧Below w.heap.size w w':=by
 have BY:=Hd (bynameStr_any 105 (fun x=>x) l A c w B hB hl hR (Go.Proofs.enters_of Tryz.func105 (by kernel_rfl) rfl) (fun x _ W _=>itself_any x W) hz)
 have HE:Hid (diffB (l.map (fun x=>x))=(((onceL (l.map (fun x=>x))).length:Int) == ((l.map (fun x=>x)).length:Int))):=Hd rfl
 have hlm:(l.map (fun x=>x)).length=l.length:=by simp
 rw [hlm] at HE
 generalize diffB (l.map (fun x=>x))=r at HE ⊢
 generalize onceL (l.map (fun x=>x))=xs at BY HE
 clear hB hl hR hz hlm
 go_enter Tryz.func104,Tryz.ntmps104
 go_wp2_with fail
 refine BY.out.mono ?_
 rintro e w2 ⟨rfl,⟨D,hm,hD⟩,hb⟩
 have hln:=fun ty=>hm.len Tryz.underlying117 ty
 rw [hD.2.2] at hln
 have HB:=Hd hb
 clear hb hm hD
 go_wp2_with fail
 go_ret
 exact ⟨by rw [HE.out];rfl,HB.out⟩
theorem differDef_any (l:List DefnT) (A:Option Addr) (c:Nat) (w:World) (B:Nat) (hB:B≤w.heap.size) (hl:l.length < maxLen) (hR:RowT w (fun b=>b < B) (rowOf encDefn l) A) (hz:∀ x,x ∈ l→x.name.size≤maxLen) :
  Calls Tryz.prog 97 #[.slice A l.length c,.func (.func 98) #[] #[]] w fun e w'=>e=.returned (.bool (diffB (l.map (fun x=>x.name))))∧Below w.heap.size w w':=by
 have BY:=Hd (bynameDef_any 98 (fun x=>x.name) l A c w B hB hl hR (Go.Proofs.enters_of Tryz.func98 (by kernel_rfl) rfl) (fun x _ cs W _ hT=>defName_any x cs W B hT) hz)
 have HE:Hid (diffB (l.map (fun x=>x.name))=(((onceL (l.map (fun x=>x.name))).length:Int) == ((l.map (fun x=>x.name)).length:Int))):=Hd rfl
 have hlm:(l.map (fun x=>x.name)).length=l.length:=by simp
 rw [hlm] at HE
 generalize diffB (l.map (fun x=>x.name))=r at HE ⊢
 generalize onceL (l.map (fun x=>x.name))=xs at BY HE
 clear hB hl hR hz hlm
 go_enter Tryz.func97,Tryz.ntmps97
 go_wp2_with fail
 refine BY.out.mono ?_
 rintro e w2 ⟨rfl,⟨D,hm,hD⟩,hb⟩
 have hln:=fun ty=>hm.len Tryz.underlying148 ty
 rw [hD.2.2] at hln
 have HB:=Hd hb
 clear hb hm hD
 go_wp2_with fail
 go_ret
 exact ⟨by rw [HE.out];rfl,HB.out⟩
theorem differFld_any (l:List FieldT) (A:Option Addr) (c:Nat) (w:World) (B:Nat) (hB:B≤w.heap.size) (hl:l.length < maxLen) (hR:RowT w (fun b=>b < B) (rowOf encField l) A) (hz:∀ x,x ∈ l→x.name.size≤maxLen) :
  Calls Tryz.prog 100 #[.slice A l.length c,.func (.func 101) #[] #[]] w fun e w'=>e=.returned (.bool (diffB (l.map (fun x=>x.name))))∧Below w.heap.size w w':=by
 have BY:=Hd (bynameFld_any 101 (fun x=>x.name) l A c w B hB hl hR (Go.Proofs.enters_of Tryz.func101 (by kernel_rfl) rfl) (fun x _ cs W _ hT=>fieldName_any x cs W B hT) hz)
 have HE:Hid (diffB (l.map (fun x=>x.name))=(((onceL (l.map (fun x=>x.name))).length:Int) == ((l.map (fun x=>x.name)).length:Int))):=Hd rfl
 have hlm:(l.map (fun x=>x.name)).length=l.length:=by simp
 rw [hlm] at HE
 generalize diffB (l.map (fun x=>x.name))=r at HE ⊢
 generalize onceL (l.map (fun x=>x.name))=xs at BY HE
 clear hB hl hR hz hlm
 go_enter Tryz.func100,Tryz.ntmps100
 go_wp2_with fail
 refine BY.out.mono ?_
 rintro e w2 ⟨rfl,⟨D,hm,hD⟩,hb⟩
 have hln:=fun ty=>hm.len Tryz.underlying120 ty
 rw [hD.2.2] at hln
 have HB:=Hd hb
 clear hb hm hD
 go_wp2_with fail
 go_ret
 exact ⟨by rw [HE.out];rfl,HB.out⟩
theorem differPar_any (l:List VarT) (A:Option Addr) (c:Nat) (w:World) (B:Nat) (hB:B≤w.heap.size) (hl:l.length < maxLen) (hR:RowT w (fun b=>b < B) (rowOf encVar l) A) (hz:∀ x,x ∈ l→x.name.size≤maxLen) :
  Calls Tryz.prog 102 #[.slice A l.length c,.func (.func 103) #[] #[]] w fun e w'=>e=.returned (.bool (diffB (l.map (fun x=>x.name))))∧Below w.heap.size w w':=by
 have BY:=Hd (bynamePar_any 103 (fun x=>x.name) l A c w B hB hl hR (Go.Proofs.enters_of Tryz.func103 (by kernel_rfl) rfl) (fun x _ cs W _ hT=>paramName_any x cs W B hT) hz)
 have HE:Hid (diffB (l.map (fun x=>x.name))=(((onceL (l.map (fun x=>x.name))).length:Int) == ((l.map (fun x=>x.name)).length:Int))):=Hd rfl
 have hlm:(l.map (fun x=>x.name)).length=l.length:=by simp
 rw [hlm] at HE
 generalize diffB (l.map (fun x=>x.name))=r at HE ⊢
 generalize onceL (l.map (fun x=>x.name))=xs at BY HE
 clear hB hl hR hz hlm
 go_enter Tryz.func102,Tryz.ntmps102
 go_wp2_with fail
 refine BY.out.mono ?_
 rintro e w2 ⟨rfl,⟨D,hm,hD⟩,hb⟩
 have hln:=fun ty=>hm.len Tryz.underlying150 ty
 rw [hD.2.2] at hln
 have HB:=Hd hb
 clear hb hm hD
 go_wp2_with fail
 go_ret
 exact ⟨by rw [HE.out];rfl,HB.out⟩
theorem wpIn_rangeFunc_y {F:Fence} {n:Nat} {P:Program} {α:Type} {g:Operand} {ps:Array Tmp} {assign body:Code} {Q:Exit→Act→World→Prop} {a:Act} {w:World}
   (hro:F.round=none) (h1:1≤n) {gf:Nat} {lb:Array Value} (hg:a.eval g=.func (.func gf) #[] lb) (hFg:F.fn gf) (eg:∀ args w,(callFunc gf args).run P w=.ok (.enter gf args) w)
   (N:Nat) (encs:α→Array Value) (Lies:Nat→α→World→Prop) (T TA R RX:World→World→Prop) (hps:∀ x,(encs x).size=ps.size)
   (I:Nat→World→Prop) (Ix:Code→Nat→World→Prop)
   (hTl:∀ A B,T A B→∀ b o,(b=w.heap.size∨b=w.heap.size+1)→A.heap[b]? = some o→B.heap[b]? = some o)
   (hIT:∀ i A B,I i A→T A B→I i B) (hIxT:∀ c i A B,Ix c i A→T A B→Ix c i B)
   (hIr:∀ i W o',I i W→w.heap.size+1 < W.heap.size→I i (W.putObj (w.heap.size+1) o'))
   (hIxr:∀ c i W o',Ix c i W→w.heap.size+1 < W.heap.size→Ix c i (W.putObj (w.heap.size+1) o'))
   (hRc:∀ i W W1 W3 o o',I i W→TA W W1→w.heap.size+1 < W1.heap.size→R (W1.putObj (w.heap.size+1) o) W3→R W (W3.putObj (w.heap.size+1) o'))
   (hRXc:∀ W W1 W3 o o',TA W W1→w.heap.size+1 < W1.heap.size→RX (W1.putObj (w.heap.size+1) o) W3→RX W (W3.putObj (w.heap.size+1) o'))
   (h0:∀ W1,Below w.heap.size w W1→W1.heap.size=w.heap.size+2→I 0 W1)
   (hseq:∀ (W1:World) (J:Nat→World→Prop) (Jx:Nat→World→Prop),Below w.heap.size w W1→W1.heap.size=w.heap.size+2→(∀ i A B,J i A→T A B→J i B)→(∀ i A B,Jx i A→T A B→Jx i B) →
     (∀ i x W,i < N→J i W→Lies i x W→YieldAt F (n - 1 - 1) P (w.heap.size+1) (encs x) W fun e W' =>
       (e=.returned (.bool true)∧J (i+1) W'∧R W W')∨(e=.returned (.bool false)∧Jx i W'∧RX W W')) →
     J 0 W1→CallsIn F (n - 1) P gf (#[.func (.yield (w.heap.size+1)) #[] #[]]++lb) W1 fun e W'=>(∃ v,e=.returned v)∧(J N W'∨∃ i,i < N∧Jx i W'))
   (hround:∀ i x W,i < N→I i W→Lies i x W→w.heap.size+1 < W.heap.size →
     assign.wpIn (F.inRound (w.heap.size+1)) (n - 1 - 1) P (Exit.then (fun a₁ W₁=>T W W₁∧TA W W₁∧I i W₁∧∀ o,body.wpIn (F.inRound (w.heap.size+1)) (n - 1 - 1) P (postZ (w.heap.size+1) w.heap.size (W₁.putObj (w.heap.size+1) o) (fun W'=>I (i+1) W'∧R (W₁.putObj (w.heap.size+1) o) W') (fun c W'=>Ix c i W'∧RX (W₁.putObj (w.heap.size+1) o) W')) a₁ (W₁.putObj (w.heap.size+1) o)) (fun _ _ _=>False)) { tmps:=(ps.zip (encs x)).foldl (fun t (p,v)=>t.setIfInBounds p v) a.tmps,defers:=[] } W)
   (hdone:∀ (W:World),I N W→W.heap[w.heap.size]? = some (.deferred (some []))→Q .normal { a with defers:={ target:=.collected w.heap.size,args:=#[] } :: a.defers } W)
   (hstop:∀ (c:Code) (i:Nat) (W:World),i < N→Ix c i W→W.heap[w.heap.size]? = some (.deferred (some []))→c.wpIn F n P Q { a with defers:={ target:=.collected w.heap.size,args:=#[] } :: a.defers } W) :
   (Code.rangeFunc g ps assign body).wpIn F n P Q a w:=by
 refine wpIn_rangeFunc ?_
 intro fn hfn
 rw [hro]
 obtain ⟨rec,hrec⟩:∃ rec:LoopState→Option Code→Loop,rec=fun st pe=>{ state:=st,pending:=pe,fn,tmps:=a.tmps,params:=ps,assign,body,defers:=w.heap.size }:=⟨_,rfl⟩
 obtain ⟨W1,hW1⟩:∃ W1,(w.alloc (.deferred (some []))).alloc (.loop (rec .ready none))=W1:=⟨_,rfl⟩
 have hL1:W1.heap[w.heap.size+1]? = some (.loop (rec .ready none)):=by
   rw [← hW1];have:=World.alloc_heap_new (w.alloc (.deferred (some []))) (.loop (rec .ready none));rwa [World.size_alloc] at this
 have hK1:W1.heap[w.heap.size]? = some (.deferred (some [])):=by
   rw [← hW1];exact (Below.heap_alloc _ _ _ (by simp)).trans (World.alloc_heap_new w _)
 have hb1:Below w.heap.size w W1:=by
   rw [← hW1];exact ((Below.refl _ w).alloc (Nat.le_refl _) _).alloc (by simp) _
 have hs1:W1.heap.size=w.heap.size+2:=by rw [← hW1];simp
 refine ⟨w.heap.size+1,[{ target:=.collected w.heap.size,args:=#[] }],W1,{ target:=.fn (.func gf) lb,args:=#[.func (.yield (w.heap.size+1)) #[] #[]] },W1,gf,
   #[.func (.yield (w.heap.size+1)) #[] #[]]++lb,W1,?_,?_,?_,?_,fun _=>h1,?_⟩
 · rw [← hW1,hrec];exact run_enterLoop_outer _ _ _ _ _
 · simp only [resolve,hg]
   simp [go_sem]
 · intro f' hf';simp [Target.leads] at hf';subst hf';exact hFg
 · simp [invoke,go_sem,eg]
 · refine (hseq W1
     (fun i W=>I i W∧W.heap[w.heap.size+1]? = some (.loop (rec .ready none))∧W.heap[w.heap.size]? = some (.deferred (some [])))
     (fun i W=>∃ c,Ix c i W∧W.heap[w.heap.size+1]? = some (.loop (rec .done (some c)))∧W.heap[w.heap.size]? = some (.deferred (some [])))
     hb1 hs1 (fun i A B h ht=>⟨hIT i A B h.1 ht,hTl A B ht _ _ (.inr rfl) h.2.1,hTl A B ht _ _ (.inl rfl) h.2.2⟩) (fun i A B ⟨c,h1,h2,h3⟩ ht=>⟨c,hIxT c i A B h1 ht,hTl A B ht _ _ (.inr rfl) h2,hTl A B ht _ _ (.inl rfl) h3⟩) ?_ ⟨h0 W1 hb1 hs1,hL1,hK1⟩).mono ?_
   · -- one round
     rintro i x W hx ⟨hi,hl,hk⟩ hLie
     have hlt:w.heap.size+1 < W.heap.size:=(Array.getElem?_eq_some_iff.1 hl).1
     have hy:=run_yield (P:=P) (args:=encs x) hl (by rw [hrec];exact hps x)
     rw [hrec] at hy
     refine ⟨fn,_,assign,body,hy,roundIn_of_wpIn hfn (wpIn_mono (hround i x W hx hi hLie hlt) ?_)⟩
     rintro e a1 V1 hp
     cases e with
     | normal =>
       obtain ⟨ht,hta,hi1,hbody⟩:=hp
       have hl1:=hTl W V1 ht _ _ (.inr rfl) hl
       have hk1:=hTl W V1 ht _ _ (.inl rfl) hk
       have hlt1:w.heap.size+1 < V1.heap.size:=(Array.getElem?_eq_some_iff.1 hl1).1
       refine ⟨_,run_beginRound hl1 (by rw [hrec]),?_⟩
       have hl2:(V1.putObj (w.heap.size+1) (.loop { rec .ready none with state:=.busy })).heap[w.heap.size+1]? = some (.loop { rec .ready none with state:=.busy }):=World.putObj_heap_same hlt1
       have hk2:(V1.putObj (w.heap.size+1) (.loop { rec .ready none with state:=.busy })).heap[w.heap.size]? = some (.deferred (some [])):=(World.putObj_heap_other (by omega)).trans hk1
       refine wpIn_mono (hbody (.loop { rec .ready none with state:=.busy })) ?_
       have fin:∀ (jump:Option Code) (W3:World),W3.heap[w.heap.size+1]? = (V1.putObj (w.heap.size+1) (.loop { rec .ready none with state:=.busy })).heap[w.heap.size+1]?∧W3.heap[w.heap.size]? = (V1.putObj (w.heap.size+1) (.loop { rec .ready none with state:=.busy })).heap[w.heap.size]? →
          (Instr.endRound (w.heap.size+1) jump).run P W3=.ok (.bool jump.isNone) (W3.putObj (w.heap.size+1) (.loop (rec (if jump.isNone then .ready else .done) jump))) ∧
          w.heap.size+1 < W3.heap.size ∧
          (W3.putObj (w.heap.size+1) (.loop (rec (if jump.isNone then .ready else .done) jump))).heap[w.heap.size+1]? = some (.loop (rec (if jump.isNone then .ready else .done) jump)) ∧
          (W3.putObj (w.heap.size+1) (.loop (rec (if jump.isNone then .ready else .done) jump))).heap[w.heap.size]? = some (.deferred (some [])):=fun jump W3 hk3=>by
         have hl3:=hk3.1.trans hl2
         have:=run_endRound (P:=P) jump hl3
         rw [hrec] at this ⊢
         exact ⟨this,(Array.getElem?_eq_some_iff.1 hl3).1,World.putObj_heap_same (Array.getElem?_eq_some_iff.1 hl3).1,(World.putObj_heap_other (by omega)).trans (hk3.2.trans hk2)⟩
       rintro e a3 W3 hp
       cases e with
       | normal =>
         obtain ⟨hk3,hi3,hr3⟩:=hp
         obtain ⟨hr,hl3,hl4,hk4⟩:=fin none W3 hk3
         exact ⟨_,_,hr,.inl ⟨rfl,⟨hIr _ _ _ hi3 hl3,hl4,hk4⟩,hRc i W V1 W3 _ _ hi hta hlt1 hr3⟩⟩
       | ret =>
         obtain ⟨hk3,hi3,hx3⟩:=hp
         obtain ⟨hr,hl3,hl4,hk4⟩:=fin (some .ret) W3 hk3
         exact ⟨_,_,hr,.inr ⟨rfl,⟨.ret,hIxr _ _ _ _ hi3 hl3,hl4,hk4⟩,hRXc W V1 W3 _ _ hta hlt1 hx3⟩⟩
       | exit id =>
         obtain ⟨hk3,hi3,hx3⟩:=hp
         obtain ⟨hr,hl3,hl4,hk4⟩:=fin (some (.exit id)) W3 hk3
         exact ⟨_,_,hr,.inr ⟨rfl,⟨.exit id,hIxr _ _ _ _ hi3 hl3,hl4,hk4⟩,hRXc W V1 W3 _ _ hta hlt1 hx3⟩⟩
       | goto t =>
         obtain ⟨hk3,hi3,hx3⟩:=hp
         obtain ⟨hr,hl3,hl4,hk4⟩:=fin (some (.goto t)) W3 hk3
         exact ⟨_,_,hr,.inr ⟨rfl,⟨.goto t,hIxr _ _ _ _ hi3 hl3,hl4,hk4⟩,hRXc W V1 W3 _ _ hta hlt1 hx3⟩⟩
       | panic ch=>exact hp.elim
       | outgrown=>exact hp.elim
     | ret=>exact hp.elim
     | exit id=>exact hp.elim
     | goto t=>exact hp.elim
     | panic ch=>exact hp.elim
     | outgrown=>exact hp.elim
   · -- the iterator has ended
     rintro e W ⟨⟨v,rfl⟩,h⟩
     rcases h with ⟨hi,hl,hk⟩|⟨i,hlen,c,hc,hl,hk⟩
     · exact ⟨none,_,by have:=run_endLoop (P:=P) hl (by rw [hrec];simp);rw [hrec] at this;exact this,hdone _ (hIr _ _ _ hi (Array.getElem?_eq_some_iff.1 hl).1) ((World.putObj_heap_other (by omega)).trans hk)⟩
     · exact ⟨some c,_,by have:=run_endLoop (P:=P) hl (by rw [hrec];simp);rw [hrec] at this;exact this,hstop c i _ hlen (hIxr _ _ _ _ hc (Array.getElem?_eq_some_iff.1 hl).1) ((World.putObj_heap_other (by omega)).trans hk)⟩
theorem flat_at {α β:Type} (g:α→List β) {D:List α} {q k:Nat} {d:α} {f:β} (h:D[q]? = some d) (hf:(g d)[k]? = some f):(D.flatMap g)[((D.take q).flatMap g).length+k]? = some f:=by
 have hq:q < D.length:=(List.getElem?_eq_some_iff.1 h).1
 have e:D.flatMap g=(D.take q).flatMap g++(g d++(D.drop (q+1)).flatMap g):=by
  rw [← List.flatMap_cons,← List.flatMap_append]
  congr 1
  have:=List.drop_eq_getElem_cons hq
  rw [(List.getElem?_eq_some_iff.1 h).2] at this
  rw [← this,List.take_append_drop]
 rw [e,List.getElem?_append_right (Nat.le_add_right ..),Nat.add_sub_cancel_left,List.getElem?_append_left (List.getElem?_eq_some_iff.1 hf).1,hf]
theorem flat_next {α β:Type} (g:α→List β) {D:List α} {q:Nat} {d:α} (h:D[q]? = some d):((D.take (q+1)).flatMap g).length=((D.take q).flatMap g).length+(g d).length:=by
 rw [List.take_add_one,h,List.flatMap_append,List.length_append]
 simp
theorem flat_lt {α β:Type} (g:α→List β) {D:List α} {q k:Nat} {d:α} (h:D[q]? = some d) (hk:k < (g d).length):((D.take q).flatMap g).length+k < (D.flatMap g).length:=
 (List.getElem?_eq_some_iff.1 (flat_at g h (List.getElem?_eq_getElem hk))).1
theorem all_upto {β:Type} {p:β→Bool} {l:List β} : (∀ (i:Nat) x,l[i]? = some x→p x=true)→l.all p=true:=fun h=>List.all_eq_true.2 (fun x hx=>by
 obtain ⟨i,hi⟩:=List.getElem?_of_mem hx
 exact h i x hi)
theorem all_not {β:Type} {p:β→Bool} {l:List β} {i:Nat} {x:β} (hx:l[i]? = some x) (h:p x=false):l.all p=false:=Bool.eq_false_iff.2 (fun h2=>by
 have:=List.all_eq_true.1 h2 x (List.mem_of_getElem? hx)
 rw [h] at this
 cases this)
def allF (D:List DefnT):List FieldT:=D.flatMap fun d=>d.fields
def allFP (D:List DefnT):List VarT:=(allF D).flatMap fun f=>f.params
def allDP (D:List DefnT):List VarT:=D.flatMap fun d=>d.params
def allPm (D:List DefnT):List VarT:=allFP D++allDP D
section
variable {X Y:Nat→Prop} {A B C:World}
theorem moz_cell (h:MoZ X A B) {b o:Nat} (hp:b < A.heap.size) (hx : ¬ X b):B.cell? ⟨b,o,none⟩=A.cell? ⟨b,o,none⟩:=World.cell?_of_block (a:=⟨b,o,none⟩) (h.block b hp hx)
theorem MoZ.of_below (h:Below A.heap.size A B):MoZ X A B:=⟨h.os,h.tape,h.output,h.size,fun b hb _=>h.block b hb⟩
theorem MoZ.refl:MoZ X A A:=⟨rfl,rfl,rfl,Nat.le_refl _,fun _ _ _=>rfl⟩
theorem MoZ.put {d:Nat} (hX:X d) (o:Obj):MoZ X A (A.putObj d o):=⟨rfl,rfl,rfl,by simp,fun _ _ hn=>World.putObj_heap_other (fun e=>hn (e ▸ hX))⟩
theorem MoZ.low {N:Nat} (h:MoZ X A B) (hX:∀ b,b < N→¬ X b) (hN:N≤A.heap.size):Below N A B:=⟨h.os,h.tape,h.output,h.size,fun b hb=>h.block b (Nat.lt_of_lt_of_le hb hN) (hX b hb)⟩
theorem MoZ.mono (h:MoZ X A B) (hXY:∀ b,X b→Y b):MoZ Y A B:=⟨h.os,h.tape,h.output,h.size,fun b hb hn=>h.block b hb (fun hx=>hn (hXY b hx))⟩
theorem MoZ.keep {P:Nat→Prop} (h:MoZ X A B) (hP:∀ b,P b→b < A.heap.size∧¬ X b) {e:TrS} {cs:List Value} (hT:TS A P e cs):TS B P e cs:=TS.keep (fun b hb=>⟨hb,h.block b (hP b hb).1 (hP b hb).2⟩) _ _ hT
theorem MoZ.heap {b:Nat} {o:Obj} (h:MoZ X A B) (hA:A.heap[b]? = some o) (hx : ¬ X b):B.heap[b]? = some o:=(h.block b (Array.getElem?_eq_some_iff.1 hA).1 hx).trans hA
end
theorem round_any {d m m':Nat} {P:Program} {l:Nat} {fn:FuncId} {tmps:Array Value} {assign body:Code} {w:World} {R:Ending→World→Prop} (h:RoundIn Fence.wide m P l fn tmps assign body w R):RoundIn (Fence.wide.inRound d) m' P l fn tmps assign body w R:=⟨h.1,fun c cs _=>h.2 c cs (room_wide _)⟩
theorem round_w {m m':Nat} {P:Program} {l:Nat} {fn:FuncId} {tmps:Array Value} {assign body:Code} {w:World} {R:Ending→World→Prop} (h:RoundIn Fence.wide m P l fn tmps assign body w R):RoundIn Fence.wide m' P l fn tmps assign body w R:=⟨h.1,fun c cs _=>h.2 c cs (room_wide _)⟩
def IterZ (gf:Nat) (lb:Array Value) (N:Nat) (Lies:Nat→List Value→World→Prop) (X:Nat→Prop) (W:World):Prop:=
 ∀ (l:Nat) (J:Nat→World→Prop) (Jx:Nat→World→Prop),(∀ i A B,J i A→Below W.heap.size A B→J i B)→(∀ i A B,Jx i A→Below W.heap.size A B→Jx i B) →
   (∀ i x V,i < N→J i V→Lies i x V→YieldAt Fence.wide 1 Tryz.prog l #[.agg x.toArray] V fun e V'=>(e=.returned (.bool true)∧J (i+1) V'∧MoZ X V V')∨(e=.returned (.bool false)∧Jx i V'∧MoZ (fun b=>b < W.heap.size) V V')) →
   J 0 W→CallsIn Fence.wide 2 Tryz.prog gf (#[.func (.yield l) #[] #[]]++lb) W fun e W'=>(∃ v,e=.returned v)∧(J N W'∨∃ i,i < N∧Jx i W')
def LiesF (D:List DefnT) (B:Nat) (i:Nat) (cs:List Value) (V:World):Prop:=∃ f,(allF D)[i]? = some f∧TS V (fun b=>b < B) (encField f) cs
def LiesV (D:List DefnT) (B:Nat) (i:Nat) (cs:List Value) (V:World):Prop:=∃ p,(allPm D)[i]? = some p∧TS V (fun b=>b < B) (encVar p) cs
end Go.Proofs.YtaekdfcpbepepaaGreatDoor
