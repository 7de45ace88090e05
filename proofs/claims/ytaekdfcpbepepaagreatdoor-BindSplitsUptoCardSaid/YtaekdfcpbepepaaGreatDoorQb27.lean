/- schema.byName over Def. (gen_map.py wrote it.) -/
import Derived.Test.YtaekdfcpbepepaaGreatDoorQbz
import Derived.Test.YtaekdfcpbepepaaGreatDoorQb26
set_option maxRecDepth 100000
set_option maxHeartbeats 8000000
namespace Go.Proofs.YtaekdfcpbepepaaGreatDoor
open List renaming getElem_toArray → zgA, getElem_cons_zero → zgB, getElem_cons_succ → zgC
open Go.RowKit
theorem bynameDef_any (fn:Nat) (nmf:DefnT→ByteArray) (l:List DefnT) (A:Option Addr) (c:Nat) (w:World) (B:Nat) (hB:B≤w.heap.size) (hl:l.length < maxLen) (hR:RowT w (fun b=>b < B) (rowOf encDefn l) A)
  (he:∀ (args:Array Value) (w:World),(callFunc fn args).run Tryz.prog w=.ok (.enter fn args) w) (hf:∀ x,x ∈ l→∀ (cs:List Value) (W:World),Below w.heap.size w W→TS W (fun b=>b < B) (encDefn x) cs→Calls Tryz.prog fn #[.agg cs.toArray] W fun e W'=>e=.returned (.string (nmf x))∧Below W.heap.size W W') (hs:∀ x,x ∈ l→(nmf x).size≤maxLen) :
  Calls Tryz.prog 150 #[.slice A l.length c,.func (.func fn) #[] #[]] w fun e w'=>e=.returned (.map (some w.heap.size))∧(∃ D,w'.ownsMap Tryz.prog 9 R0 w.heap.size l.length D∧KeysD D (onceL (l.map nmf)))∧Below w.heap.size w w':=by
 have hmm:=fun (n:Int) (w:World)=>run_makeMapN (P:=Tryz.prog) Tryz.underlying148 n w
 have HR:=Hd hR
 have HF:=Hd hf
 have HB:=Hd hB
 have HS:=Hd hs
 have HZ:=Hd hl
 have hl':l.length≤9223372036854775807:=by unfold maxLen at hl;omega
 have B0:=Hd (dbelow_new w (.map #[] 0))
 have M0:=Hd (World.ownsMap_made w Tryz.prog 9 R0)
 clear hR hf hB hs hl
 go_enter Tryz.func150,Tryz.ntmps150
 go_wp2_with fail
 clear hmm
 go_loopg [13] l.length (fun g i wx=>∃ q:Nat,q+g=l.length∧i=.int .i64 q∧Aside ((∃ D:DataW Unit,wx.ownsMap Tryz.prog 9 R0 w.heap.size q D∧KeysD D (onceL ((l.map nmf).take q)))∧Below w.heap.size w wx))
 case atStart=>exact ⟨0,by omega,rfl,Blk.Aside.intro ⟨⟨_,M0.out,KeysD.nil⟩,B0.out⟩⟩
 case round =>
  obtain ⟨q,hq,rfl,HX⟩:=hrel
  obtain ⟨⟨D,hm,hD⟩,hb⟩:=HX.out
  have HM:=Hd hm
  have HD:=Hd hD
  have BX:=Hd hb
  clear HX hb hm hD
  cases gk with
  | zero =>
    obtain rfl:q=l.length:=by omega
    have HD':=HD.out
    rw [List.take_of_length_le (by simp)] at HD'
    have HD2:=Hd HD'
    clear HD' HD
    go_wp2_with fail
    go_ret
    exact ⟨rfl,⟨D,HM.out,HD2.out⟩,BX.out⟩
  | succ g =>
    have hqn:q < l.length:=by omega
    have hqn':(q:Int) < (l.length:Int):=by omega
    obtain ⟨x,hx⟩:∃ x,l[q]? = some x:=⟨_,List.getElem?_eq_getElem hqn⟩
    have hxn:(l.map nmf)[q]? = some (nmf x):=by rw [List.getElem?_map,hx];rfl
    have hkey:=WideMaps.keyOf_string_mk (P:=Tryz.prog) Tryz.underlying9 (s:=nmf x) (HS.out x (List.mem_of_getElem? hx))
    have HK:=Hd (once_take hxn)
    have HMAX:q < maxLen:=by have:=HZ.out;omega
    obtain ⟨b,o,cs,rfl,hb,hc,hT⟩:=rowOf_at 6 defn_len HR.out hx
    have HBL:=Hd (Nat.lt_of_lt_of_le hb HB.out)
    have hT':=TS.low (BX.out.mono HB.out) hT
    obtain ⟨Af,kf,Ax,kx,Ap,kp,Am,km,rfl,_⟩:=defn_cells hT
    have g0:=(BX.out.cell (p:=⟨b,o+q*6,none⟩) HBL.out).trans (hc 0 _ rfl)
    have g1:=(BX.out.cell (p:=⟨b,o+q*6+1,none⟩) HBL.out).trans (hc 1 _ rfl)
    have g2:=(BX.out.cell (p:=⟨b,o+q*6+2,none⟩) HBL.out).trans (hc 2 _ rfl)
    have g3:=(BX.out.cell (p:=⟨b,o+q*6+3,none⟩) HBL.out).trans (hc 3 _ rfl)
    have g4:=(BX.out.cell (p:=⟨b,o+q*6+4,none⟩) HBL.out).trans (hc 4 _ rfl)
    have g5:=(BX.out.cell (p:=⟨b,o+q*6+5,none⟩) HBL.out).trans (hc 5 _ rfl)
    have HT':=Hd hT'
    have CF:=Hd (HF.out x (List.mem_of_getElem? hx))
    generalize nmf x=nx at CF HK hkey
    clear hx hxn hb hT hT' hc
    go_upto_region 5 with fail
    clear g0 g1 g2 g3 g4 g5
    have bn:=dbelow_new wr (.cells #[.int .i64 x.kind,.string x.name,.slice Af x.faces.length kf,.slice Ax x.fields.length kx,.slice Ap x.parts.length kp,.slice Am x.params.length km] 37)
    have B2:=Hd (BX.out.trans (bn.mono BX.out.size))
    have TT:=Hd (TS.low (bn.mono (Nat.le_trans HB.out BX.out.size)) HT'.out)
    have CF:=Hd (fun (wx:World) (h:Below (wr.alloc (.cells #[.int .i64 x.kind,.string x.name,.slice Af x.faces.length kf,.slice Ax x.fields.length kx,.slice Ap x.parts.length kp,.slice Am x.params.length km] 37)).heap.size (wr.alloc (.cells #[.int .i64 x.kind,.string x.name,.slice Af x.faces.length kf,.slice Ax x.fields.length kx,.slice Ap x.parts.length kp,.slice Am x.params.length km] 37)) wx)=>CF.out _ wx (B2.out.trans (h.mono B2.out.size)) (TS.low (h.mono (Nat.le_trans HB.out B2.out.size)) TT.out))
    have Y2:=Hd (heap_alloc_new wr (.cells #[.int .i64 x.kind,.string x.name,.slice Af x.faces.length kf,.slice Ax x.fields.length kx,.slice Ap x.parts.length kp,.slice Am x.params.length km] 37))
    have M2:=Hd (map_on HM.out bn)
    have HGB:=Hd (HM.out.lt)
    generalize wr.alloc (.cells #[.int .i64 x.kind,.string x.name,.slice Af x.faces.length kf,.slice Ax x.fields.length kx,.slice Ap x.parts.length kp,.slice Am x.params.length km] 37)=w2 at B2 Y2 CF M2 TT ⊢
    generalize wr.heap.size=gb at Y2 HGB ⊢
    clear bn HM BX
    have HLO:=Hd B2.out.size
    have HE:Hid (QL w.heap.size w2 [(gb,0,(Value.int .i64 x.kind)),(gb,1,(Value.string x.name)),(gb,2,(Value.slice Af x.faces.length kf)),(gb,3,(Value.slice Ax x.fields.length kx)),(gb,4,(Value.slice Ap x.parts.length kp)),(gb,5,(Value.slice Am x.params.length km))] w2):=Hd (by
      obtain ⟨⟨g0,g1,g2,g3,g4,g5⟩,_⟩:=six_cells Y2.out
      refine ⟨fun p hp=>?_,Below.refl _ _⟩
      simp only [List.mem_cons,List.not_mem_nil,or_false] at hp
      rcases hp with rfl|rfl|rfl|rfl|rfl|rfl<;>assumption)
    have HLW:Hid (∀ p,p ∈ [(gb,0,(Value.int .i64 x.kind)),(gb,1,(Value.string x.name)),(gb,2,(Value.slice Af x.faces.length kf)),(gb,3,(Value.slice Ax x.fields.length kx)),(gb,4,(Value.slice Ap x.parts.length kp)),(gb,5,(Value.slice Am x.params.length km))]→p.1 < w2.heap.size):=Hd (fun p hp=>by
      have l1:=(Array.getElem?_eq_some_iff.1 Y2.out).1
      simp only [List.mem_cons,List.not_mem_nil,or_false] at hp
      rcases hp with rfl|rfl|rfl|rfl|rfl|rfl<;>assumption)
    have HNE:Hid (∀ g,(some w.heap.size:Option Nat)=some g→w.heap.size≤g∧∀ p,p ∈ [(gb,0,(Value.int .i64 x.kind)),(gb,1,(Value.string x.name)),(gb,2,(Value.slice Af x.faces.length kf)),(gb,3,(Value.slice Ax x.fields.length kx)),(gb,4,(Value.slice Ap x.parts.length kp)),(gb,5,(Value.slice Am x.params.length km))]→p.1 ≠ g):=Hd (fun g hg=>by
      injection hg with hg
      subst hg
      refine ⟨Nat.le_refl _,fun p hp=>?_⟩
      have l1:=HGB.out
      simp only [List.mem_cons,List.not_mem_nil,or_false] at hp
      rcases hp with rfl|rfl|rfl|rfl|rfl|rfl<;>(dsimp only;omega))
    refine wp_region_held_drew (S:=(fun w'=>w'.cell? ⟨gb,0,none⟩=some (Value.int .i64 x.kind)∧w'.cell? ⟨gb,1,none⟩=some (Value.string x.name)∧w'.cell? ⟨gb,2,none⟩=some (Value.slice Af x.faces.length kf)∧w'.cell? ⟨gb,3,none⟩=some (Value.slice Ax x.fields.length kx)∧w'.cell? ⟨gb,4,none⟩=some (Value.slice Ap x.parts.length kp)∧w'.cell? ⟨gb,5,none⟩=some (Value.slice Am x.params.length km)∧QL w.heap.size w2 [(gb,0,(Value.int .i64 x.kind)),(gb,1,(Value.string x.name)),(gb,2,(Value.slice Af x.faces.length kf)),(gb,3,(Value.slice Ax x.fields.length kx)),(gb,4,(Value.slice Ap x.parts.length kp)),(gb,5,(Value.slice Am x.params.length km))] w')) (by kernel_rfl) (qmdef_written (HE.out.full HLW.out HLO.out (Below.drew (Below.refl _ _)))) (fun hHeld=>?_)
    refine ztk 0 (v:=?_) ?_ (by assumption) ?_
    rotate_left
    · (intro w hSw;(try dsimp only at hSw);go_simp;try with_reducible rfl)
    try simp only [Act.put,zgA,zgB,stT,stZ,stS]
    refine ztk 1 (v:=?_) ?_ (by assumption) ?_
    rotate_left
    · (intro w hSw;(try dsimp only at hSw);go_simp;try with_reducible rfl)
    try simp only [Act.put,zgA,zgB,zgC,stT,stZ,stS]
    refine ztk 2 (v:=?_) ?_ (by assumption) ?_
    rotate_left
    · (intro w hSw;(try dsimp only at hSw);go_simp;try with_reducible rfl)
    try simp only [Act.put,zgA,zgB,zgC,stT,stZ,stS]
    refine ztk 4 (v:=?_) ?_ (by assumption) ?_
    rotate_left
    · (intro w hSw;(try dsimp only at hSw);go_simp;try with_reducible rfl)
    try simp only [Act.put,zgA,zgB,zgC,stT,stZ,stS]
    refine wpAnyH_ready (rs:=[3]) (by kernel_rfl) (by simp) ?_
    refine AllReadyH.cons (o:=_) rfl (fun K hK=>?_) AllReadyH.nil
    go_simp
    refine (CF.out _ (Below.drew (Below.refl _ _))).mono ?_
    rintro e wc ⟨rfl,hb⟩
    have HFU:=Hd ((Below.drew (Below.refl _ _):Below w2.heap.size w2 _).trans (hb.mono (Below.drew (Below.refl _ _):Below w2.heap.size w2 _).size))
    have HBC:=Hd hb
    clear hb
    go_wp2_with fail
    refine hK.out _ _ (qmdef_written (QL.full (qmdef_last (by assumption)) HLW.out HLO.out HBC.out)) (fun hHeld=>?_)
    clear hK K
    try simp only [Act.put,zgA,zgB,zgC,stT,stZ,stS]
    refine wpAnyH_ready (rs:=[5]) (by kernel_rfl) (by simp) ?_
    refine AllReadyH.cons (o:=_) rfl (fun K hK=>?_) AllReadyH.nil
    refine step_mapput rfl _ _ _ 148 rfl 9 _ (Maps.string_keyed Tryz.underlying9) Tryz.underlying148 w.heap.size q D rfl (map_on M2.out HFU.out) HMAX _ _ _ rfl rfl hkey ?_
    intro w5 hm5 hg5
    have HM5:=Hd hm5
    have HG5:=Hd hg5
    clear hm5 hg5
    refine hK.out _ _ (qmdef_written (QL.grown (qmdef_last (by assumption)) HLW.out HNE.out HLO.out HG5.out)) (fun hHeld=>?_)
    clear hK K
    try simp only [Act.put,zgA,zgB,zgC]
    refine wpAnyH_done (by kernel_rfl) ?_ _
    clear hHeld
    have B5:=Hd (below_grown (B:=w.heap.size) (B2.out.trans (HFU.out.mono B2.out.size)) HG5.out (Nat.le_trans B2.out.size HFU.out.size) (fun b hb=>by injection hb with hb;omega))
    clear HE HLW HNE HFU HBC Y2 M2 HLO HGB B2 HG5 TT CF
    go_wp2_with fail
    go_roundg g
    case measure=>omega
    case rel=>exact ⟨q+1,by omega,by go_num,Blk.Aside.intro ⟨⟨_,HM5.out,by rw [HK.out];exact HD.out.put nx⟩,B5.out⟩⟩
theorem bynameFld_any (fn:Nat) (nmf:FieldT→ByteArray) (l:List FieldT) (A:Option Addr) (c:Nat) (w:World) (B:Nat) (hB:B≤w.heap.size) (hl:l.length < maxLen) (hR:RowT w (fun b=>b < B) (rowOf encField l) A)
  (he:∀ (args:Array Value) (w:World),(callFunc fn args).run Tryz.prog w=.ok (.enter fn args) w) (hf:∀ x,x ∈ l→∀ (cs:List Value) (W:World),Below w.heap.size w W→TS W (fun b=>b < B) (encField x) cs→Calls Tryz.prog fn #[.agg cs.toArray] W fun e W'=>e=.returned (.string (nmf x))∧Below W.heap.size W W') (hs:∀ x,x ∈ l→(nmf x).size≤maxLen) :
  Calls Tryz.prog 111 #[.slice A l.length c,.func (.func fn) #[] #[]] w fun e w'=>e=.returned (.map (some w.heap.size))∧(∃ D,w'.ownsMap Tryz.prog 9 R0 w.heap.size l.length D∧KeysD D (onceL (l.map nmf)))∧Below w.heap.size w w':=by
 have hmm:=fun (n:Int) (w:World)=>run_makeMapN (P:=Tryz.prog) Tryz.underlying120 n w
 have HR:=Hd hR
 have HF:=Hd hf
 have HB:=Hd hB
 have HS:=Hd hs
 have HZ:=Hd hl
 have hl':l.length≤9223372036854775807:=by unfold maxLen at hl;omega
 have B0:=Hd (dbelow_new w (.map #[] 0))
 have M0:=Hd (World.ownsMap_made w Tryz.prog 9 R0)
 clear hR hf hB hs hl
 go_enter Tryz.func111,Tryz.ntmps111
 go_wp2_with fail
 clear hmm
 go_loopg [13] l.length (fun g i wx=>∃ q:Nat,q+g=l.length∧i=.int .i64 q∧Aside ((∃ D:DataW Unit,wx.ownsMap Tryz.prog 9 R0 w.heap.size q D∧KeysD D (onceL ((l.map nmf).take q)))∧Below w.heap.size w wx))
 case atStart=>exact ⟨0,by omega,rfl,Blk.Aside.intro ⟨⟨_,M0.out,KeysD.nil⟩,B0.out⟩⟩
 case round =>
  obtain ⟨q,hq,rfl,HX⟩:=hrel
  obtain ⟨⟨D,hm,hD⟩,hb⟩:=HX.out
  have HM:=Hd hm
  have HD:=Hd hD
  have BX:=Hd hb
  clear HX hb hm hD
  cases gk with
  | zero =>
    obtain rfl:q=l.length:=by omega
    have HD':=HD.out
    rw [List.take_of_length_le (by simp)] at HD'
    have HD2:=Hd HD'
    clear HD' HD
    go_wp2_with fail
    go_ret
    exact ⟨rfl,⟨D,HM.out,HD2.out⟩,BX.out⟩
  | succ g =>
    have hqn:q < l.length:=by omega
    have hqn':(q:Int) < (l.length:Int):=by omega
    obtain ⟨x,hx⟩:∃ x,l[q]? = some x:=⟨_,List.getElem?_eq_getElem hqn⟩
    have hxn:(l.map nmf)[q]? = some (nmf x):=by rw [List.getElem?_map,hx];rfl
    have hkey:=WideMaps.keyOf_string_mk (P:=Tryz.prog) Tryz.underlying9 (s:=nmf x) (HS.out x (List.mem_of_getElem? hx))
    have HK:=Hd (once_take hxn)
    have HMAX:q < maxLen:=by have:=HZ.out;omega
    obtain ⟨b,o,cs,rfl,hb,hc,hT⟩:=rowOf_at 6 len_fld HR.out hx
    have HBL:=Hd (Nat.lt_of_lt_of_le hb HB.out)
    have hT':=TS.low (BX.out.mono HB.out) hT
    obtain ⟨Ap,kp,Ad,kd,rfl,_⟩:=fld_cells hT
    have g0:=(BX.out.cell (p:=⟨b,o+q*6,none⟩) HBL.out).trans (hc 0 _ rfl)
    have g1:=(BX.out.cell (p:=⟨b,o+q*6+1,none⟩) HBL.out).trans (hc 1 _ rfl)
    have g2:=(BX.out.cell (p:=⟨b,o+q*6+2,none⟩) HBL.out).trans (hc 2 _ rfl)
    have g3:=(BX.out.cell (p:=⟨b,o+q*6+3,none⟩) HBL.out).trans (hc 3 _ rfl)
    have g4:=(BX.out.cell (p:=⟨b,o+q*6+4,none⟩) HBL.out).trans (hc 4 _ rfl)
    have g5:=(BX.out.cell (p:=⟨b,o+q*6+5,none⟩) HBL.out).trans (hc 5 _ rfl)
    have HT':=Hd hT'
    have CF:=Hd (HF.out x (List.mem_of_getElem? hx))
    generalize nmf x=nx at CF HK hkey
    clear hx hxn hb hT hT' hc
    go_upto_region 5 with fail
    clear g0 g1 g2 g3 g4 g5
    have bn:=dbelow_new wr (.cells #[.string x.name,.slice Ap x.params.length kp,.string x.tn,.int .i64 x.tl,.int .i64 x.tm,.slice Ad x.dirs.length kd] 46)
    have B2:=Hd (BX.out.trans (bn.mono BX.out.size))
    have TT:=Hd (TS.low (bn.mono (Nat.le_trans HB.out BX.out.size)) HT'.out)
    have CF:=Hd (fun (wx:World) (h:Below (wr.alloc (.cells #[.string x.name,.slice Ap x.params.length kp,.string x.tn,.int .i64 x.tl,.int .i64 x.tm,.slice Ad x.dirs.length kd] 46)).heap.size (wr.alloc (.cells #[.string x.name,.slice Ap x.params.length kp,.string x.tn,.int .i64 x.tl,.int .i64 x.tm,.slice Ad x.dirs.length kd] 46)) wx)=>CF.out _ wx (B2.out.trans (h.mono B2.out.size)) (TS.low (h.mono (Nat.le_trans HB.out B2.out.size)) TT.out))
    have Y2:=Hd (heap_alloc_new wr (.cells #[.string x.name,.slice Ap x.params.length kp,.string x.tn,.int .i64 x.tl,.int .i64 x.tm,.slice Ad x.dirs.length kd] 46))
    have M2:=Hd (map_on HM.out bn)
    have HGB:=Hd (HM.out.lt)
    generalize wr.alloc (.cells #[.string x.name,.slice Ap x.params.length kp,.string x.tn,.int .i64 x.tl,.int .i64 x.tm,.slice Ad x.dirs.length kd] 46)=w2 at B2 Y2 CF M2 TT ⊢
    generalize wr.heap.size=gb at Y2 HGB ⊢
    clear bn HM BX
    have HLO:=Hd B2.out.size
    have HE:Hid (QL w.heap.size w2 [(gb,0,(Value.string x.name)),(gb,1,(Value.slice Ap x.params.length kp)),(gb,2,(Value.string x.tn)),(gb,3,(Value.int .i64 x.tl)),(gb,4,(Value.int .i64 x.tm)),(gb,5,(Value.slice Ad x.dirs.length kd))] w2):=Hd (by
      obtain ⟨⟨g0,g1,g2,g3,g4,g5⟩,_⟩:=six_cells Y2.out
      refine ⟨fun p hp=>?_,Below.refl _ _⟩
      simp only [List.mem_cons,List.not_mem_nil,or_false] at hp
      rcases hp with rfl|rfl|rfl|rfl|rfl|rfl<;>assumption)
    have HLW:Hid (∀ p,p ∈ [(gb,0,(Value.string x.name)),(gb,1,(Value.slice Ap x.params.length kp)),(gb,2,(Value.string x.tn)),(gb,3,(Value.int .i64 x.tl)),(gb,4,(Value.int .i64 x.tm)),(gb,5,(Value.slice Ad x.dirs.length kd))]→p.1 < w2.heap.size):=Hd (fun p hp=>by
      have l1:=(Array.getElem?_eq_some_iff.1 Y2.out).1
      simp only [List.mem_cons,List.not_mem_nil,or_false] at hp
      rcases hp with rfl|rfl|rfl|rfl|rfl|rfl<;>assumption)
    have HNE:Hid (∀ g,(some w.heap.size:Option Nat)=some g→w.heap.size≤g∧∀ p,p ∈ [(gb,0,(Value.string x.name)),(gb,1,(Value.slice Ap x.params.length kp)),(gb,2,(Value.string x.tn)),(gb,3,(Value.int .i64 x.tl)),(gb,4,(Value.int .i64 x.tm)),(gb,5,(Value.slice Ad x.dirs.length kd))]→p.1 ≠ g):=Hd (fun g hg=>by
      injection hg with hg
      subst hg
      refine ⟨Nat.le_refl _,fun p hp=>?_⟩
      have l1:=HGB.out
      simp only [List.mem_cons,List.not_mem_nil,or_false] at hp
      rcases hp with rfl|rfl|rfl|rfl|rfl|rfl<;>(dsimp only;omega))
    refine wp_region_held_drew (S:=(fun w'=>w'.cell? ⟨gb,0,none⟩=some (Value.string x.name)∧w'.cell? ⟨gb,1,none⟩=some (Value.slice Ap x.params.length kp)∧w'.cell? ⟨gb,2,none⟩=some (Value.string x.tn)∧w'.cell? ⟨gb,3,none⟩=some (Value.int .i64 x.tl)∧w'.cell? ⟨gb,4,none⟩=some (Value.int .i64 x.tm)∧w'.cell? ⟨gb,5,none⟩=some (Value.slice Ad x.dirs.length kd)∧QL w.heap.size w2 [(gb,0,(Value.string x.name)),(gb,1,(Value.slice Ap x.params.length kp)),(gb,2,(Value.string x.tn)),(gb,3,(Value.int .i64 x.tl)),(gb,4,(Value.int .i64 x.tm)),(gb,5,(Value.slice Ad x.dirs.length kd))] w')) (by kernel_rfl) (qmfld_written (HE.out.full HLW.out HLO.out (Below.drew (Below.refl _ _)))) (fun hHeld=>?_)
    refine ztk 0 (v:=?_) ?_ (by assumption) ?_
    rotate_left
    · (intro w hSw;(try dsimp only at hSw);go_simp;try with_reducible rfl)
    try simp only [Act.put,zgA,zgB,stT,stZ,stS]
    refine ztk 1 (v:=?_) ?_ (by assumption) ?_
    rotate_left
    · (intro w hSw;(try dsimp only at hSw);go_simp;try with_reducible rfl)
    try simp only [Act.put,zgA,zgB,zgC,stT,stZ,stS]
    refine ztk 2 (v:=?_) ?_ (by assumption) ?_
    rotate_left
    · (intro w hSw;(try dsimp only at hSw);go_simp;try with_reducible rfl)
    try simp only [Act.put,zgA,zgB,zgC,stT,stZ,stS]
    refine ztk 4 (v:=?_) ?_ (by assumption) ?_
    rotate_left
    · (intro w hSw;(try dsimp only at hSw);go_simp;try with_reducible rfl)
    try simp only [Act.put,zgA,zgB,zgC,stT,stZ,stS]
    refine wpAnyH_ready (rs:=[3]) (by kernel_rfl) (by simp) ?_
    refine AllReadyH.cons (o:=_) rfl (fun K hK=>?_) AllReadyH.nil
    go_simp
    refine (CF.out _ (Below.drew (Below.refl _ _))).mono ?_
    rintro e wc ⟨rfl,hb⟩
    have HFU:=Hd ((Below.drew (Below.refl _ _):Below w2.heap.size w2 _).trans (hb.mono (Below.drew (Below.refl _ _):Below w2.heap.size w2 _).size))
    have HBC:=Hd hb
    clear hb
    go_wp2_with fail
    refine hK.out _ _ (qmfld_written (QL.full (qmfld_last (by assumption)) HLW.out HLO.out HBC.out)) (fun hHeld=>?_)
    clear hK K
    try simp only [Act.put,zgA,zgB,zgC,stT,stZ,stS]
    refine wpAnyH_ready (rs:=[5]) (by kernel_rfl) (by simp) ?_
    refine AllReadyH.cons (o:=_) rfl (fun K hK=>?_) AllReadyH.nil
    refine step_mapput rfl _ _ _ 120 rfl 9 _ (Maps.string_keyed Tryz.underlying9) Tryz.underlying120 w.heap.size q D rfl (map_on M2.out HFU.out) HMAX _ _ _ rfl rfl hkey ?_
    intro w5 hm5 hg5
    have HM5:=Hd hm5
    have HG5:=Hd hg5
    clear hm5 hg5
    refine hK.out _ _ (qmfld_written (QL.grown (qmfld_last (by assumption)) HLW.out HNE.out HLO.out HG5.out)) (fun hHeld=>?_)
    clear hK K
    try simp only [Act.put,zgA,zgB,zgC]
    refine wpAnyH_done (by kernel_rfl) ?_ _
    clear hHeld
    have B5:=Hd (below_grown (B:=w.heap.size) (B2.out.trans (HFU.out.mono B2.out.size)) HG5.out (Nat.le_trans B2.out.size HFU.out.size) (fun b hb=>by injection hb with hb;omega))
    clear HE HLW HNE HFU HBC Y2 M2 HLO HGB B2 HG5 TT CF
    go_wp2_with fail
    go_roundg g
    case measure=>omega
    case rel=>exact ⟨q+1,by omega,by go_num,Blk.Aside.intro ⟨⟨_,HM5.out,by rw [HK.out];exact HD.out.put nx⟩,B5.out⟩⟩
end Go.Proofs.YtaekdfcpbepepaaGreatDoor
