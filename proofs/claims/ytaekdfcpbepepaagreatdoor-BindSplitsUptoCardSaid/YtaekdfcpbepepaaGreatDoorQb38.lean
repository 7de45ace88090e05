/- A map from names to values, whatever the values are: each stands for itself. -/
import Derived.Test.YtaekdfcpbepepaaGreatDoorQbz
import Derived.Test.YtaekdfcpbepepaaGreatDoorQb32
import Derived.Maps.RangeWalk
set_option maxRecDepth 100000
set_option maxHeartbeats 8000000
namespace Go.Proofs.YtaekdfcpbepepaaGreatDoor
open List renaming getElem_toArray → zgA, getElem_cons_zero → zgB, getElem_cons_succ → zgC
open Go.RowKit
def R1 (v:Value):Option (DataW Value × List MemPlace):=some (.held v,[])
def ValsD (D:DataW Value) (m:ByteArray→Option Value):Prop:=Maps.Tidy D∧(∀ s:ByteArray,Maps.has D (.string s.data.toList)=(m s).isSome)∧∀ (s:ByteArray) (v z:Value),m s=some v→D.atKey (.string s.data.toList) (.held z)=.held v
def putM (m:ByteArray→Option Value) (s:ByteArray) (v:Value):ByteArray→Option Value:=fun t=>if t=s then some v else m t
def delM (m:ByteArray→Option Value) (s:ByteArray):ByteArray→Option Value:=fun t=>if t=s then none else m t
theorem key_ne {s t:ByteArray} (h : ¬ t=s):(Lit.string t.data.toList) ≠ .string s.data.toList:=fun e=>h (by injection e with e;exact ByteArray.ext (Array.toList_inj.1 e))
theorem ValsD.nil:ValsD (.map []) (fun _=>none):=⟨⟨[],rfl,List.Pairwise.nil⟩,fun _=>rfl,fun _ _ _ h=>by cases h⟩
theorem ValsD.put {D:DataW Value} {m:ByteArray→Option Value} (h:ValsD D m) (s:ByteArray) (v:Value):ValsD (D.put (.string s.data.toList) (.held v)) (putM m s v):=by
 obtain ⟨h1,h2,h3⟩:=h
 refine ⟨h1.put (by trivial) _,fun t=>?_,fun t u z hu=>?_⟩
 · unfold putM
   by_cases e:t=s
   · subst e
     rw [Maps.has_put_same h1.isMap (by trivial),if_pos rfl]
     rfl
   · rw [Maps.has_put_other (key_ne e),if_neg e,h2 t]
 · unfold putM at hu
   by_cases e:t=s
   · subst e
     rw [if_pos rfl] at hu
     injection hu with hu
     subst hu
     rw [Maps.atKey_put_same h1.isMap (by trivial)]
   · rw [if_neg e] at hu
     rw [Maps.atKey_put_other (key_ne e)]
     exact h3 t u z hu
theorem ValsD.del {D:DataW Value} {m:ByteArray→Option Value} (h:ValsD D m) (s:ByteArray):ValsD (D.del (.string s.data.toList)) (delM m s):=by
 obtain ⟨h1,h2,h3⟩:=h
 refine ⟨h1.del _,fun t=>?_,fun t u z hu=>?_⟩
 · unfold delM
   by_cases e:t=s
   · subst e
     rw [Maps.has_del_same,if_pos rfl]
     rfl
   · rw [Maps.has_del_other (key_ne e),if_neg e,h2 t]
 · unfold delM at hu
   by_cases e:t=s
   · rw [if_pos e] at hu;cases hu
   · rw [if_neg e] at hu
     rw [Maps.atKey_del_other (key_ne e)]
     exact h3 t u z hu
theorem step_mapputV {P:Program} {ops:Array Oper} {o:Oper} {w:World} {a:Act} {K:Act→World→Prop} {Q:Exit→Act→World→Prop} {E:Prop} (hgd:o.guard=none) (m x v:Operand) (t:TypeId) (hop:o.op=Op.mapUpdate t m x v)
  (k e:TypeId) (KD:Maps.Keyed P k) (ht:P.underlying t=some (.map k e)) (b n:Nat) (D:DataW Value) (hm:a.eval m=.map (some b)) (hown:w.ownsMap P k R1 b n D) (hn:n < maxLen) (key val:Value) (kl:Lit) (hx:a.eval x=key) (hv:a.eval v=val) (hkey:keyOf P k key=some kl)
  (hK:∀ w',w'.ownsMap P k R1 b (n+1) (D.put kl (.held val))→w.grownBy w' (some b)→K (a.put o.dst undef) w'):if Region.wanted o (yielded ops a.tmps)=true then Oper.wp P o a w K Q else E:=by
 have hw:Region.wanted o (yielded ops a.tmps)=true:=by simp [Region.wanted,hgd]
 rw [if_pos hw]
 obtain ⟨w',hrun,r1,r2⟩:=hown.update KD ht hn (key:=key) (val:=val) hkey (d:=.held val) (ps:=[]) rfl
 unfold Oper.wp
 simp [execOp,hop,hm,hx,hv,hrun,Result.andThen]
 exact hK w' r1 r2
theorem map_onV {w w':World} {b n:Nat} {D:DataW Value} (h:w.ownsMap Tryz.prog 9 R1 b n D) (hb:Below w.heap.size w w'):w'.ownsMap Tryz.prog 9 R1 b n D:=h.kept (row:=none) ⟨hb.os,hb.tape,hb.output,hb.size,fun k hk _=>hb.block k hk⟩ (by simp)
def lastN {α:Type} (nmf:α→ByteArray) (l:List α) (s:ByteArray):Option α:=l.foldl (fun r x=>if s=nmf x then some x else r) none
theorem lastN_take {α:Type} {nmf:α→ByteArray} {l:List α} {q:Nat} {x:α} (h:l[q]? = some x) (s:ByteArray):lastN nmf (l.take (q+1)) s=if s=nmf x then some x else lastN nmf (l.take q) s:=by
 unfold lastN
 rw [List.take_add_one,h,List.foldl_append]
 rfl
def HeldP {α:Type} (w:World) (B:Nat) (enc:α→TrS) (nmf:α→ByteArray) (l:List α) (m:ByteArray→Option Value):Prop:=
 ∀ s,match lastN nmf l s with
   | none=>m s=none
   | some x=>∃ cs,m s=some (.agg cs.toArray)∧TS w (fun b=>b < B) (enc x) cs
theorem HeldP.nil {α:Type} {w:World} {B:Nat} {enc:α→TrS} {nmf:α→ByteArray} {l:List α} : HeldP w B enc nmf (l.take 0) (fun _=>none):=fun _=>rfl
theorem HeldP.next {α:Type} {w:World} {B:Nat} {enc:α→TrS} {nmf:α→ByteArray} {l:List α} {q:Nat} {x:α} {m:ByteArray→Option Value} {cs:List Value} (hx:l[q]? = some x) (hT:TS w (fun b=>b < B) (enc x) cs) (h:HeldP w B enc nmf (l.take q) m):HeldP w B enc nmf (l.take (q+1)) (putM m (nmf x) (.agg cs.toArray)):=by
 intro s
 have hs:=h s
 rw [lastN_take hx s]
 unfold putM
 by_cases e:s=nmf x
 · rw [if_pos e,if_pos e]
   exact ⟨cs,rfl,hT⟩
 · rw [if_neg e,if_neg e]
   exact hs
theorem bynameParV_any (fn:Nat) (nmf:VarT→ByteArray) (l:List VarT) (A:Option Addr) (c:Nat) (w:World) (B:Nat) (hB:B≤w.heap.size) (hl:l.length < maxLen) (hR:RowT w (fun b=>b < B) (rowOf encVar l) A)
  (he:∀ (args:Array Value) (w:World),(callFunc fn args).run Tryz.prog w=.ok (.enter fn args) w) (hf:∀ x,x ∈ l→∀ (cs:List Value) (W:World),Below w.heap.size w W→TS W (fun b=>b < B) (encVar x) cs→Calls Tryz.prog fn #[.agg cs.toArray] W fun e W'=>e=.returned (.string (nmf x))∧Below W.heap.size W W') (hs:∀ x,x ∈ l→(nmf x).size≤maxLen) :
  Calls Tryz.prog 151 #[.slice A l.length c,.func (.func fn) #[] #[]] w fun e w'=>e=.returned (.map (some w.heap.size))∧(∃ (D:DataW Value) (m:ByteArray→Option Value),w'.ownsMap Tryz.prog 9 R1 w.heap.size l.length D∧ValsD D m∧HeldP w B encVar nmf l m)∧Below w.heap.size w w':=by
 have hmm:=fun (n:Int) (w:World)=>run_makeMapN (P:=Tryz.prog) Tryz.underlying150 n w
 have HR:=Hd hR
 have HF:=Hd hf
 have HB:=Hd hB
 have HS:=Hd hs
 have HZ:=Hd hl
 have hl':l.length≤9223372036854775807:=by unfold maxLen at hl;omega
 have B0:=Hd (dbelow_new w (.map #[] 0))
 have M0:=Hd (World.ownsMap_made w Tryz.prog 9 R1)
 clear hR hf hB hs hl
 go_enter Tryz.func151,Tryz.ntmps151
 go_wp2_with fail
 clear hmm
 go_loopg [13] l.length (fun g i wx=>∃ q:Nat,q+g=l.length∧i=.int .i64 q∧Aside ((∃ D:DataW Value,wx.ownsMap Tryz.prog 9 R1 w.heap.size q D∧∃ m:ByteArray→Option Value,ValsD D m∧HeldP w B encVar nmf (l.take q) m)∧Below w.heap.size w wx))
 case atStart=>exact ⟨0,by omega,rfl,Blk.Aside.intro ⟨⟨_,M0.out,_,ValsD.nil,HeldP.nil⟩,B0.out⟩⟩
 case round =>
  obtain ⟨q,hq,rfl,HX⟩:=hrel
  obtain ⟨⟨D,hm,m,hD,hH⟩,hb⟩:=HX.out
  have HM:=Hd hm
  have HD:=Hd hD
  have HH:=Hd hH
  have BX:=Hd hb
  clear HX hb hm hD hH
  cases gk with
  | zero =>
    obtain rfl:q=l.length:=by omega
    have HD':=HH.out
    rw [List.take_length] at HD'
    have HD2:=Hd HD'
    clear HD' HH
    go_wp2_with fail
    go_ret
    exact ⟨rfl,⟨D,m,HM.out,HD.out,HD2.out⟩,BX.out⟩
  | succ g =>
    have hqn:q < l.length:=by omega
    have hqn':(q:Int) < (l.length:Int):=by omega
    obtain ⟨x,hx⟩:∃ x,l[q]? = some x:=⟨_,List.getElem?_eq_getElem hqn⟩
    have hkey:=WideMaps.keyOf_string_mk (P:=Tryz.prog) Tryz.underlying9 (s:=nmf x) (HS.out x (List.mem_of_getElem? hx))
    have HMAX:q < maxLen:=by have:=HZ.out;omega
    obtain ⟨b,o,cs,rfl,hb,hc,hT⟩:=rowOf_at 10 len_par HR.out hx
    have HBL:=Hd (Nat.lt_of_lt_of_le hb HB.out)
    have hT':=TS.low (BX.out.mono HB.out) hT
    obtain ⟨A3,k3,A4,k4,rfl,_⟩:=var_cells hT
    have HK:=Hd (HeldP.next (nmf:=nmf) hx hT HH.out)
    have g0:=(BX.out.cell (p:=⟨b,o+q*10,none⟩) HBL.out).trans (hc 0 _ rfl)
    have g1:=(BX.out.cell (p:=⟨b,o+q*10+1,none⟩) HBL.out).trans (hc 1 _ rfl)
    have g2:=(BX.out.cell (p:=⟨b,o+q*10+2,none⟩) HBL.out).trans (hc 2 _ rfl)
    have g3:=(BX.out.cell (p:=⟨b,o+q*10+3,none⟩) HBL.out).trans (hc 3 _ rfl)
    have g4:=(BX.out.cell (p:=⟨b,o+q*10+4,none⟩) HBL.out).trans (hc 4 _ rfl)
    have g5:=(BX.out.cell (p:=⟨b,o+q*10+5,none⟩) HBL.out).trans (hc 5 _ rfl)
    have g6:=(BX.out.cell (p:=⟨b,o+q*10+6,none⟩) HBL.out).trans (hc 6 _ rfl)
    have g7:=(BX.out.cell (p:=⟨b,o+q*10+7,none⟩) HBL.out).trans (hc 7 _ rfl)
    have g8:=(BX.out.cell (p:=⟨b,o+q*10+8,none⟩) HBL.out).trans (hc 8 _ rfl)
    have g9:=(BX.out.cell (p:=⟨b,o+q*10+9,none⟩) HBL.out).trans (hc 9 _ rfl)
    have HT':=Hd hT'
    have CF:=Hd (HF.out x (List.mem_of_getElem? hx))
    generalize nmf x=nx at CF HK hkey
    clear hx hb hT hT' hc
    go_upto_region 5 with fail
    clear g0 g1 g2 g3 g4 g5 g6 g7 g8 g9
    have bn:=dbelow_new wr (.cells #[.string x.name,.string x.tn,.int .i64 x.tl,.int .i64 x.tm,.bool x.has,.int .i64 x.v.kd,.int .i64 x.v.nn,.string x.v.ss,.slice A3 x.v.ls.len k3,.slice A4 x.v.ms.len k4] 60)
    have B2:=Hd (BX.out.trans (bn.mono BX.out.size))
    have TT:=Hd (TS.low (bn.mono (Nat.le_trans HB.out BX.out.size)) HT'.out)
    have CF:=Hd (fun (wx:World) (h:Below (wr.alloc (.cells #[.string x.name,.string x.tn,.int .i64 x.tl,.int .i64 x.tm,.bool x.has,.int .i64 x.v.kd,.int .i64 x.v.nn,.string x.v.ss,.slice A3 x.v.ls.len k3,.slice A4 x.v.ms.len k4] 60)).heap.size (wr.alloc (.cells #[.string x.name,.string x.tn,.int .i64 x.tl,.int .i64 x.tm,.bool x.has,.int .i64 x.v.kd,.int .i64 x.v.nn,.string x.v.ss,.slice A3 x.v.ls.len k3,.slice A4 x.v.ms.len k4] 60)) wx)=>CF.out _ wx (B2.out.trans (h.mono B2.out.size)) (TS.low (h.mono (Nat.le_trans HB.out B2.out.size)) TT.out))
    have Y2:=Hd (heap_alloc_new wr (.cells #[.string x.name,.string x.tn,.int .i64 x.tl,.int .i64 x.tm,.bool x.has,.int .i64 x.v.kd,.int .i64 x.v.nn,.string x.v.ss,.slice A3 x.v.ls.len k3,.slice A4 x.v.ms.len k4] 60))
    have M2:=Hd (map_onV HM.out bn)
    have HGB:=Hd (HM.out.lt)
    generalize wr.alloc (.cells #[.string x.name,.string x.tn,.int .i64 x.tl,.int .i64 x.tm,.bool x.has,.int .i64 x.v.kd,.int .i64 x.v.nn,.string x.v.ss,.slice A3 x.v.ls.len k3,.slice A4 x.v.ms.len k4] 60)=w2 at B2 Y2 CF M2 TT ⊢
    generalize wr.heap.size=gb at Y2 HGB ⊢
    clear bn HM BX
    have HLO:=Hd B2.out.size
    have HE:Hid (QL w.heap.size w2 [(gb,0,(Value.string x.name)),(gb,1,(Value.string x.tn)),(gb,2,(Value.int .i64 x.tl)),(gb,3,(Value.int .i64 x.tm)),(gb,4,(Value.bool x.has)),(gb,5,(Value.int .i64 x.v.kd)),(gb,6,(Value.int .i64 x.v.nn)),(gb,7,(Value.string x.v.ss)),(gb,8,(Value.slice A3 x.v.ls.len k3)),(gb,9,(Value.slice A4 x.v.ms.len k4))] w2):=Hd (by
      obtain ⟨⟨g0,g1,g2,g3,g4,g5,g6,g7,g8,g9⟩,_⟩:=ten_cells Y2.out
      refine ⟨fun p hp=>?_,Below.refl _ _⟩
      simp only [List.mem_cons,List.not_mem_nil,or_false] at hp
      rcases hp with rfl|rfl|rfl|rfl|rfl|rfl|rfl|rfl|rfl|rfl<;>assumption)
    have HLW:Hid (∀ p,p ∈ [(gb,0,(Value.string x.name)),(gb,1,(Value.string x.tn)),(gb,2,(Value.int .i64 x.tl)),(gb,3,(Value.int .i64 x.tm)),(gb,4,(Value.bool x.has)),(gb,5,(Value.int .i64 x.v.kd)),(gb,6,(Value.int .i64 x.v.nn)),(gb,7,(Value.string x.v.ss)),(gb,8,(Value.slice A3 x.v.ls.len k3)),(gb,9,(Value.slice A4 x.v.ms.len k4))]→p.1 < w2.heap.size):=Hd (fun p hp=>by
      have l1:=(Array.getElem?_eq_some_iff.1 Y2.out).1
      simp only [List.mem_cons,List.not_mem_nil,or_false] at hp
      rcases hp with rfl|rfl|rfl|rfl|rfl|rfl|rfl|rfl|rfl|rfl<;>assumption)
    have HNE:Hid (∀ g,(some w.heap.size:Option Nat)=some g→w.heap.size≤g∧∀ p,p ∈ [(gb,0,(Value.string x.name)),(gb,1,(Value.string x.tn)),(gb,2,(Value.int .i64 x.tl)),(gb,3,(Value.int .i64 x.tm)),(gb,4,(Value.bool x.has)),(gb,5,(Value.int .i64 x.v.kd)),(gb,6,(Value.int .i64 x.v.nn)),(gb,7,(Value.string x.v.ss)),(gb,8,(Value.slice A3 x.v.ls.len k3)),(gb,9,(Value.slice A4 x.v.ms.len k4))]→p.1 ≠ g):=Hd (fun g hg=>by
      injection hg with hg
      subst hg
      refine ⟨Nat.le_refl _,fun p hp=>?_⟩
      have l1:=HGB.out
      simp only [List.mem_cons,List.not_mem_nil,or_false] at hp
      rcases hp with rfl|rfl|rfl|rfl|rfl|rfl|rfl|rfl|rfl|rfl<;>(dsimp only;omega))
    refine wp_region_held_drew (S:=(fun w'=>w'.cell? ⟨gb,0,none⟩=some (Value.string x.name)∧w'.cell? ⟨gb,1,none⟩=some (Value.string x.tn)∧w'.cell? ⟨gb,2,none⟩=some (Value.int .i64 x.tl)∧w'.cell? ⟨gb,3,none⟩=some (Value.int .i64 x.tm)∧w'.cell? ⟨gb,4,none⟩=some (Value.bool x.has)∧w'.cell? ⟨gb,5,none⟩=some (Value.int .i64 x.v.kd)∧w'.cell? ⟨gb,6,none⟩=some (Value.int .i64 x.v.nn)∧w'.cell? ⟨gb,7,none⟩=some (Value.string x.v.ss)∧w'.cell? ⟨gb,8,none⟩=some (Value.slice A3 x.v.ls.len k3)∧w'.cell? ⟨gb,9,none⟩=some (Value.slice A4 x.v.ms.len k4)∧QL w.heap.size w2 [(gb,0,(Value.string x.name)),(gb,1,(Value.string x.tn)),(gb,2,(Value.int .i64 x.tl)),(gb,3,(Value.int .i64 x.tm)),(gb,4,(Value.bool x.has)),(gb,5,(Value.int .i64 x.v.kd)),(gb,6,(Value.int .i64 x.v.nn)),(gb,7,(Value.string x.v.ss)),(gb,8,(Value.slice A3 x.v.ls.len k3)),(gb,9,(Value.slice A4 x.v.ms.len k4))] w')) (by kernel_rfl) (qmpar_written (HE.out.full HLW.out HLO.out (Below.drew (Below.refl _ _)))) (fun hHeld=>?_)
    refine ztk 0 (v:=?_) ?_ (by assumption) ?_
    rotate_left
    · (intro w hSw;(try dsimp only at hSw);go_simp;try with_reducible rfl)
    try simp only [Act.put,zgA,zgB,stT,stZ,stS]
    refine ztk 1 (v:=?_) ?_ (by assumption) ?_
    rotate_left
    · (intro w hSw;(try dsimp only at hSw);go_simp;try with_reducible rfl)
    try simp only [Act.put,zgA,zgB,zgC,stT,stZ,stS]
    refine ztk 2 (v:=?_) ?_ (by assumption) ?_
    rotate_left
    · (intro w hSw;(try dsimp only at hSw);go_simp;try with_reducible rfl)
    try simp only [Act.put,zgA,zgB,zgC,stT,stZ,stS]
    refine ztk 4 (v:=?_) ?_ (by assumption) ?_
    rotate_left
    · (intro w hSw;(try dsimp only at hSw);go_simp;try with_reducible rfl)
    try simp only [Act.put,zgA,zgB,zgC,stT,stZ,stS]
    refine wpAnyH_ready (rs:=[3]) (by kernel_rfl) (by simp) ?_
    refine AllReadyH.cons (o:=_) rfl (fun K hK=>?_) AllReadyH.nil
    go_simp
    refine (CF.out _ (Below.drew (Below.refl _ _))).mono ?_
    rintro e wc ⟨rfl,hb⟩
    have HFU:=Hd ((Below.drew (Below.refl _ _):Below w2.heap.size w2 _).trans (hb.mono (Below.drew (Below.refl _ _):Below w2.heap.size w2 _).size))
    have HBC:=Hd hb
    clear hb
    go_wp2_with fail
    refine hK.out _ _ (qmpar_written (QL.full (qmpar_last (by assumption)) HLW.out HLO.out HBC.out)) (fun hHeld=>?_)
    clear hK K
    try simp only [Act.put,zgA,zgB,zgC,stT,stZ,stS]
    refine wpAnyH_ready (rs:=[5]) (by kernel_rfl) (by simp) ?_
    refine AllReadyH.cons (o:=_) rfl (fun K hK=>?_) AllReadyH.nil
    refine step_mapputV rfl _ _ _ 150 rfl 9 _ (Maps.string_keyed Tryz.underlying9) Tryz.underlying150 w.heap.size q D rfl (map_onV M2.out HFU.out) HMAX _ _ _ rfl rfl hkey ?_
    intro w5 hm5 hg5
    have HM5:=Hd hm5
    have HG5:=Hd hg5
    clear hm5 hg5
    refine hK.out _ _ (qmpar_written (QL.grown (qmpar_last (by assumption)) HLW.out HNE.out HLO.out HG5.out)) (fun hHeld=>?_)
    clear hK K
    try simp only [Act.put,zgA,zgB,zgC]
    refine wpAnyH_done (by kernel_rfl) ?_ _
    clear hHeld
    have B5:=Hd (below_grown (B:=w.heap.size) (B2.out.trans (HFU.out.mono B2.out.size)) HG5.out (Nat.le_trans B2.out.size HFU.out.size) (fun b hb=>by injection hb with hb;omega))
    clear HE HLW HNE HFU HBC Y2 M2 HLO HGB B2 HG5 TT CF
    go_wp2_with fail
    go_roundg g
    case measure=>omega
    case rel=>exact ⟨q+1,by omega,by go_num,Blk.Aside.intro ⟨⟨_,HM5.out,_,HD.out.put nx _,HK.out⟩,B5.out⟩⟩
theorem bynameFldV_any (fn:Nat) (nmf:FieldT→ByteArray) (l:List FieldT) (A:Option Addr) (c:Nat) (w:World) (B:Nat) (hB:B≤w.heap.size) (hl:l.length < maxLen) (hR:RowT w (fun b=>b < B) (rowOf encField l) A)
  (he:∀ (args:Array Value) (w:World),(callFunc fn args).run Tryz.prog w=.ok (.enter fn args) w) (hf:∀ x,x ∈ l→∀ (cs:List Value) (W:World),Below w.heap.size w W→TS W (fun b=>b < B) (encField x) cs→Calls Tryz.prog fn #[.agg cs.toArray] W fun e W'=>e=.returned (.string (nmf x))∧Below W.heap.size W W') (hs:∀ x,x ∈ l→(nmf x).size≤maxLen) :
  Calls Tryz.prog 111 #[.slice A l.length c,.func (.func fn) #[] #[]] w fun e w'=>e=.returned (.map (some w.heap.size))∧(∃ (D:DataW Value) (m:ByteArray→Option Value),w'.ownsMap Tryz.prog 9 R1 w.heap.size l.length D∧ValsD D m∧HeldP w B encField nmf l m)∧Below w.heap.size w w':=by
 have hmm:=fun (n:Int) (w:World)=>run_makeMapN (P:=Tryz.prog) Tryz.underlying120 n w
 have HR:=Hd hR
 have HF:=Hd hf
 have HB:=Hd hB
 have HS:=Hd hs
 have HZ:=Hd hl
 have hl':l.length≤9223372036854775807:=by unfold maxLen at hl;omega
 have B0:=Hd (dbelow_new w (.map #[] 0))
 have M0:=Hd (World.ownsMap_made w Tryz.prog 9 R1)
 clear hR hf hB hs hl
 go_enter Tryz.func111,Tryz.ntmps111
 go_wp2_with fail
 clear hmm
 go_loopg [13] l.length (fun g i wx=>∃ q:Nat,q+g=l.length∧i=.int .i64 q∧Aside ((∃ D:DataW Value,wx.ownsMap Tryz.prog 9 R1 w.heap.size q D∧∃ m:ByteArray→Option Value,ValsD D m∧HeldP w B encField nmf (l.take q) m)∧Below w.heap.size w wx))
 case atStart=>exact ⟨0,by omega,rfl,Blk.Aside.intro ⟨⟨_,M0.out,_,ValsD.nil,HeldP.nil⟩,B0.out⟩⟩
 case round =>
  obtain ⟨q,hq,rfl,HX⟩:=hrel
  obtain ⟨⟨D,hm,m,hD,hH⟩,hb⟩:=HX.out
  have HM:=Hd hm
  have HD:=Hd hD
  have HH:=Hd hH
  have BX:=Hd hb
  clear HX hb hm hD hH
  cases gk with
  | zero =>
    obtain rfl:q=l.length:=by omega
    have HD':=HH.out
    rw [List.take_length] at HD'
    have HD2:=Hd HD'
    clear HD' HH
    go_wp2_with fail
    go_ret
    exact ⟨rfl,⟨D,m,HM.out,HD.out,HD2.out⟩,BX.out⟩
  | succ g =>
    have hqn:q < l.length:=by omega
    have hqn':(q:Int) < (l.length:Int):=by omega
    obtain ⟨x,hx⟩:∃ x,l[q]? = some x:=⟨_,List.getElem?_eq_getElem hqn⟩
    have hkey:=WideMaps.keyOf_string_mk (P:=Tryz.prog) Tryz.underlying9 (s:=nmf x) (HS.out x (List.mem_of_getElem? hx))
    have HMAX:q < maxLen:=by have:=HZ.out;omega
    obtain ⟨b,o,cs,rfl,hb,hc,hT⟩:=rowOf_at 6 len_fld HR.out hx
    have HBL:=Hd (Nat.lt_of_lt_of_le hb HB.out)
    have hT':=TS.low (BX.out.mono HB.out) hT
    obtain ⟨Ap,kp,Ad,kd,rfl,_⟩:=fld_cells hT
    have HK:=Hd (HeldP.next (nmf:=nmf) hx hT HH.out)
    have g0:=(BX.out.cell (p:=⟨b,o+q*6,none⟩) HBL.out).trans (hc 0 _ rfl)
    have g1:=(BX.out.cell (p:=⟨b,o+q*6+1,none⟩) HBL.out).trans (hc 1 _ rfl)
    have g2:=(BX.out.cell (p:=⟨b,o+q*6+2,none⟩) HBL.out).trans (hc 2 _ rfl)
    have g3:=(BX.out.cell (p:=⟨b,o+q*6+3,none⟩) HBL.out).trans (hc 3 _ rfl)
    have g4:=(BX.out.cell (p:=⟨b,o+q*6+4,none⟩) HBL.out).trans (hc 4 _ rfl)
    have g5:=(BX.out.cell (p:=⟨b,o+q*6+5,none⟩) HBL.out).trans (hc 5 _ rfl)
    have HT':=Hd hT'
    have CF:=Hd (HF.out x (List.mem_of_getElem? hx))
    generalize nmf x=nx at CF HK hkey
    clear hx hb hT hT' hc
    go_upto_region 5 with fail
    clear g0 g1 g2 g3 g4 g5
    have bn:=dbelow_new wr (.cells #[.string x.name,.slice Ap x.params.length kp,.string x.tn,.int .i64 x.tl,.int .i64 x.tm,.slice Ad x.dirs.length kd] 46)
    have B2:=Hd (BX.out.trans (bn.mono BX.out.size))
    have TT:=Hd (TS.low (bn.mono (Nat.le_trans HB.out BX.out.size)) HT'.out)
    have CF:=Hd (fun (wx:World) (h:Below (wr.alloc (.cells #[.string x.name,.slice Ap x.params.length kp,.string x.tn,.int .i64 x.tl,.int .i64 x.tm,.slice Ad x.dirs.length kd] 46)).heap.size (wr.alloc (.cells #[.string x.name,.slice Ap x.params.length kp,.string x.tn,.int .i64 x.tl,.int .i64 x.tm,.slice Ad x.dirs.length kd] 46)) wx)=>CF.out _ wx (B2.out.trans (h.mono B2.out.size)) (TS.low (h.mono (Nat.le_trans HB.out B2.out.size)) TT.out))
    have Y2:=Hd (heap_alloc_new wr (.cells #[.string x.name,.slice Ap x.params.length kp,.string x.tn,.int .i64 x.tl,.int .i64 x.tm,.slice Ad x.dirs.length kd] 46))
    have M2:=Hd (map_onV HM.out bn)
    have HGB:=Hd (HM.out.lt)
    generalize wr.alloc (.cells #[.string x.name,.slice Ap x.params.length kp,.string x.tn,.int .i64 x.tl,.int .i64 x.tm,.slice Ad x.dirs.length kd] 46)=w2 at B2 Y2 CF M2 TT ⊢
    generalize wr.heap.size=gb at Y2 HGB ⊢
    clear bn HM BX
    have HLO:=Hd B2.out.size
    have HE:Hid (QL w.heap.size w2 [(gb,0,(Value.string x.name)),(gb,1,(Value.slice Ap x.params.length kp)),(gb,2,(Value.string x.tn)),(gb,3,(Value.int .i64 x.tl)),(gb,4,(Value.int .i64 x.tm)),(gb,5,(Value.slice Ad x.dirs.length kd))] w2):=Hd (by
      obtain ⟨⟨g0,g1,g2,g3,g4,g5⟩,_⟩:=six_cells Y2.out
      refine ⟨fun p hp=>?_,Below.refl _ _⟩
      simp only [List.mem_cons,List.not_mem_nil,or_false] at hp
      rcases hp with rfl|rfl|rfl|rfl|rfl|rfl<;>assumption)
    have HLW:Hid (∀ p,p ∈ [(gb,0,(Value.string x.name)),(gb,1,(Value.slice Ap x.params.length kp)),(gb,2,(Value.string x.tn)),(gb,3,(Value.int .i64 x.tl)),(gb,4,(Value.int .i64 x.tm)),(gb,5,(Value.slice Ad x.dirs.length kd))]→p.1 < w2.heap.size):=Hd (fun p hp=>by
      have l1:=(Array.getElem?_eq_some_iff.1 Y2.out).1
      simp only [List.mem_cons,List.not_mem_nil,or_false] at hp
      rcases hp with rfl|rfl|rfl|rfl|rfl|rfl<;>assumption)
    have HNE:Hid (∀ g,(some w.heap.size:Option Nat)=some g→w.heap.size≤g∧∀ p,p ∈ [(gb,0,(Value.string x.name)),(gb,1,(Value.slice Ap x.params.length kp)),(gb,2,(Value.string x.tn)),(gb,3,(Value.int .i64 x.tl)),(gb,4,(Value.int .i64 x.tm)),(gb,5,(Value.slice Ad x.dirs.length kd))]→p.1 ≠ g):=Hd (fun g hg=>by
      injection hg with hg
      subst hg
      refine ⟨Nat.le_refl _,fun p hp=>?_⟩
      have l1:=HGB.out
      simp only [List.mem_cons,List.not_mem_nil,or_false] at hp
      rcases hp with rfl|rfl|rfl|rfl|rfl|rfl<;>(dsimp only;omega))
    refine wp_region_held_drew (S:=(fun w'=>w'.cell? ⟨gb,0,none⟩=some (Value.string x.name)∧w'.cell? ⟨gb,1,none⟩=some (Value.slice Ap x.params.length kp)∧w'.cell? ⟨gb,2,none⟩=some (Value.string x.tn)∧w'.cell? ⟨gb,3,none⟩=some (Value.int .i64 x.tl)∧w'.cell? ⟨gb,4,none⟩=some (Value.int .i64 x.tm)∧w'.cell? ⟨gb,5,none⟩=some (Value.slice Ad x.dirs.length kd)∧QL w.heap.size w2 [(gb,0,(Value.string x.name)),(gb,1,(Value.slice Ap x.params.length kp)),(gb,2,(Value.string x.tn)),(gb,3,(Value.int .i64 x.tl)),(gb,4,(Value.int .i64 x.tm)),(gb,5,(Value.slice Ad x.dirs.length kd))] w')) (by kernel_rfl) (qmfld_written (HE.out.full HLW.out HLO.out (Below.drew (Below.refl _ _)))) (fun hHeld=>?_)
    refine ztk 0 (v:=?_) ?_ (by assumption) ?_
    rotate_left
    · (intro w hSw;(try dsimp only at hSw);go_simp;try with_reducible rfl)
    try simp only [Act.put,zgA,zgB,stT,stZ,stS]
    refine ztk 1 (v:=?_) ?_ (by assumption) ?_
    rotate_left
    · (intro w hSw;(try dsimp only at hSw);go_simp;try with_reducible rfl)
    try simp only [Act.put,zgA,zgB,zgC,stT,stZ,stS]
    refine ztk 2 (v:=?_) ?_ (by assumption) ?_
    rotate_left
    · (intro w hSw;(try dsimp only at hSw);go_simp;try with_reducible rfl)
    try simp only [Act.put,zgA,zgB,zgC,stT,stZ,stS]
    refine ztk 4 (v:=?_) ?_ (by assumption) ?_
    rotate_left
    · (intro w hSw;(try dsimp only at hSw);go_simp;try with_reducible rfl)
    try simp only [Act.put,zgA,zgB,zgC,stT,stZ,stS]
    refine wpAnyH_ready (rs:=[3]) (by kernel_rfl) (by simp) ?_
    refine AllReadyH.cons (o:=_) rfl (fun K hK=>?_) AllReadyH.nil
    go_simp
    refine (CF.out _ (Below.drew (Below.refl _ _))).mono ?_
    rintro e wc ⟨rfl,hb⟩
    have HFU:=Hd ((Below.drew (Below.refl _ _):Below w2.heap.size w2 _).trans (hb.mono (Below.drew (Below.refl _ _):Below w2.heap.size w2 _).size))
    have HBC:=Hd hb
    clear hb
    go_wp2_with fail
    refine hK.out _ _ (qmfld_written (QL.full (qmfld_last (by assumption)) HLW.out HLO.out HBC.out)) (fun hHeld=>?_)
    clear hK K
    try simp only [Act.put,zgA,zgB,zgC,stT,stZ,stS]
    refine wpAnyH_ready (rs:=[5]) (by kernel_rfl) (by simp) ?_
    refine AllReadyH.cons (o:=_) rfl (fun K hK=>?_) AllReadyH.nil
    refine step_mapputV rfl _ _ _ 120 rfl 9 _ (Maps.string_keyed Tryz.underlying9) Tryz.underlying120 w.heap.size q D rfl (map_onV M2.out HFU.out) HMAX _ _ _ rfl rfl hkey ?_
    intro w5 hm5 hg5
    have HM5:=Hd hm5
    have HG5:=Hd hg5
    clear hm5 hg5
    refine hK.out _ _ (qmfld_written (QL.grown (qmfld_last (by assumption)) HLW.out HNE.out HLO.out HG5.out)) (fun hHeld=>?_)
    clear hK K
    try simp only [Act.put,zgA,zgB,zgC]
    refine wpAnyH_done (by kernel_rfl) ?_ _
    clear hHeld
    have B5:=Hd (below_grown (B:=w.heap.size) (B2.out.trans (HFU.out.mono B2.out.size)) HG5.out (Nat.le_trans B2.out.size HFU.out.size) (fun b hb=>by injection hb with hb;omega))
    clear HE HLW HNE HFU HBC Y2 M2 HLO HGB B2 HG5 TT CF
    go_wp2_with fail
    go_roundg g
    case measure=>omega
    case rel=>exact ⟨q+1,by omega,by go_num,Blk.Aside.intro ⟨⟨_,HM5.out,_,HD.out.put nx _,HK.out⟩,B5.out⟩⟩
theorem vals_look {D:DataW Value} {m:ByteArray→Option Value} (h:ValsD D m) {s:ByteArray} {u v z:Value} {ps:List MemPlace} (hu:m s=some u) (hv:R1 v=some (D.atKey (.string s.data.toList) (.held z),ps)):v=u:=by
 rw [h.2.2 s u z hu] at hv
 unfold R1 at hv
 injection hv with hv
 injection hv with hv _
 injection hv
theorem HeldP.none_at {α:Type} {w:World} {B:Nat} {enc:α→TrS} {nmf:α→ByteArray} {l:List α} {m:ByteArray→Option Value} (h:HeldP w B enc nmf l m) {s:ByteArray} (hs:lastN nmf l s=none):m s=none:=by
 have:=h s
 rwa [hs] at this
theorem HeldP.some_at {α:Type} {w:World} {B:Nat} {enc:α→TrS} {nmf:α→ByteArray} {l:List α} {m:ByteArray→Option Value} (h:HeldP w B enc nmf l m) {s:ByteArray} {x:α} (hs:lastN nmf l s=some x):∃ cs,m s=some (.agg cs.toArray)∧TS w (fun b=>b < B) (enc x) cs:=by
 have:=h s
 rwa [hs] at this
theorem lastN_mem {α:Type} {nmf:α→ByteArray} {s:ByteArray} {x:α} : ∀ {l:List α},lastN nmf l s=some x→x ∈ l∧nmf x=s:=by
 intro l
 have key:∀ (l:List α) (r:Option α),l.foldl (fun r x=>if s=nmf x then some x else r) r=some x→(x ∈ l∧nmf x=s)∨r=some x:=by
   intro l
   induction l with
   | nil=>intro r h;exact .inr h
   | cons a t ih =>
     intro r h
     rw [List.foldl_cons] at h
     rcases ih _ h with h1|h1
     · exact .inl ⟨List.mem_cons_of_mem _ h1.1,h1.2⟩
     · by_cases e:s=nmf a
       · rw [if_pos e] at h1
         injection h1 with h1
         subst h1
         exact .inl ⟨List.mem_cons_self ..,e.symm⟩
       · rw [if_neg e] at h1
         exact .inr h1
 intro h
 rcases key l none h with h|h
 · exact h
 · cases h
def lessM (m:ByteArray→Option Value) (gone:List ByteArray):ByteArray→Option Value:=fun s=>if hasN gone s=true then none else m s
theorem lessM_nil (m:ByteArray→Option Value):lessM m []=m:=by
 funext s
 unfold lessM
 rw [if_neg (by simp [hasN])]
theorem lessM_del (m:ByteArray→Option Value) (gone:List ByteArray) (s:ByteArray):delM (lessM m gone) s=lessM m (gone++[s]):=by
 funext t
 unfold delM lessM
 rw [hasN_snoc]
 by_cases e:t=s
 · subst e
   simp
 · have:(s.data.toList == t.data.toList)=false:=beq_eq_false_iff_ne.2 (fun e'=>e (ByteArray.ext (Array.toList_inj.1 e'.symm)))
   rw [if_neg e,this,Bool.or_false]
def askB (own:List VarT) (gone:List ByteArray) (p:VarT):Bool:=
 !hasN gone p.name && match lastN (fun x=>x.name) own p.name with
  | none=>false
  | some q=>q.tn.toList == p.tn.toList && (q.tl == p.tl && q.tm == p.tm)
def askedB (own asked:List VarT):Bool:=(List.range asked.length).all fun i=>match asked[i]? with
 | none=>true
 | some p=>askB own ((asked.take i).map fun x=>x.name) p
def restB (own asked:List VarT):Bool:=own.all fun x=>hasN (asked.map fun y=>y.name) x.name || match lastN (fun y=>y.name) own x.name with
 | none=>true
 | some q=>!(isB q.tn.data.toList q.tl q.tm && !q.has)
def standB (own asked:List VarT):Bool:=askedB own asked && restB own asked
def LookV (m:ByteArray→Option Value) (s:ByteArray) (z o:Value) (ok:Bool):Prop:=match m s with
 | none=>o=z∧ok=false
 | some u=>o=u∧ok=true
theorem LookV.no {m:ByteArray→Option Value} {s:ByteArray} {z:Value} (h:m s=none):LookV m s z z false:=by unfold LookV;rw [h];exact ⟨rfl,rfl⟩
theorem LookV.yes {m:ByteArray→Option Value} {s:ByteArray} {z u:Value} (h:m s=some u):LookV m s z u true:=by unfold LookV;rw [h];exact ⟨rfl,rfl⟩
section
variable {P:Program} {w:World} {ops:Array Oper} {rest:List Oper} {o:Oper} {a:Act} {Q:Exit→Act→World→Prop}
theorem look_v {D:DataW Value} {mm:ByteArray→Option Value} (hD:ValsD D mm) {s:ByteArray} {z ov v:Value} {ps:List MemPlace} {ok:Bool} (hl:LookV mm s z ov ok) (hv:R1 v=some (D.atKey (.string s.data.toList) (.held z),ps)):v=ov∧Maps.has D (.string s.data.toList)=ok:=by
 unfold LookV at hl
 cases e:mm s with
 | none =>
   rw [e] at hl
   obtain ⟨rfl,rfl⟩:=hl
   have hh:Maps.has D (.string s.data.toList)=false:=by rw [hD.2.1 s,e];rfl
   rw [Maps.atKey_of_not_has hh] at hv
   unfold R1 at hv
   injection hv with hv
   injection hv with hv _
   injection hv with hv
   exact ⟨hv,hh⟩
 | some u =>
   rw [e] at hl
   obtain ⟨rfl,rfl⟩:=hl
   exact ⟨vals_look hD e hv,by rw [hD.2.1 s,e];rfl⟩
theorem wpList_lookV (hg:o.guard=none) (m x:Operand) (t:TypeId) (hop:o.op=Op.lookup t m x true) (k e:TypeId) (hk:P.underlying k=some .string) (ht:P.underlying t=some (.map k e)) {z:Value} (hz:(zeroValue e).run P w=.ok z w) (b n:Nat) (D:DataW Value) (mm:ByteArray→Option Value)
  (hm:a.eval m=.map (some b)) (hown:w.ownsMap P k R1 b n D) (hD:ValsD D mm) (s:ByteArray) (hx:a.eval x=.string s) (hs:s.size≤maxLen) (ov:Value) (ok:Bool) (hl:LookV mm s z ov ok)
  (hK:wpList P ops Q rest (a.put o.dst (.tuple #[ov,.bool ok])) w):wpList P ops Q (o :: rest) a w:=by
 refine wpList_lookup_own_ok w hg m x t hop k e (Maps.string_keyed hk) ht R1 hz (.held z) [] rfl b n D hm hown _ _ hx (WideMaps.keyOf_string_mk hk hs) ?_
 intro v ps hv
 obtain ⟨rfl,h2⟩:=look_v hD hl hv
 rw [h2]
 exact hK
theorem wpList_lookV1 (hg:o.guard=none) (m x:Operand) (t:TypeId) (hop:o.op=Op.lookup t m x false) (k e:TypeId) (hk:P.underlying k=some .string) (ht:P.underlying t=some (.map k e)) {z:Value} (hz:(zeroValue e).run P w=.ok z w) (b n:Nat) (D:DataW Value) (mm:ByteArray→Option Value)
  (hm:a.eval m=.map (some b)) (hown:w.ownsMap P k R1 b n D) (hD:ValsD D mm) (s:ByteArray) (hx:a.eval x=.string s) (hs:s.size≤maxLen) (ov:Value) (ok:Bool) (hl:LookV mm s z ov ok)
  (hK:wpList P ops Q rest (a.put o.dst ov) w):wpList P ops Q (o :: rest) a w:=by
 refine wpList_plain hg fun K' hK'=>?_
 obtain ⟨v,ps,hrun,hv⟩:=World.ownsMap.lookup hown (Maps.string_keyed hk) ht hz (zd:=.held z) (zp:=[]) rfl (WideMaps.keyOf_string_mk hk hs)
 obtain ⟨rfl,_⟩:=look_v hD hl hv
 unfold Oper.wp
 simp [execOp,hop,hm,hx,hrun,Result.andThen]
 exact hK' _ _ hK
theorem wpList_delV (hg:o.guard=none) (m x:Operand) (t k:TypeId) (hop:o.op=Op.call { callee:=Callee.builtin Builtin.delete,args:=#[m,x],argTypes:=#[t,k] })
  (e:TypeId) (hk:P.underlying k=some .string) (ht:P.underlying t=some (.map k e)) (b n:Nat) (D:DataW Value) (mm:ByteArray→Option Value)
  (hm:a.eval m=.map (some b)) (hown:w.ownsMap P k R1 b n D) (hD:ValsD D mm) (s:ByteArray) (hx:a.eval x=.string s) (hs:s.size≤maxLen)
  (hK:∀ w' D',w'.ownsMap P k R1 b n D'→ValsD D' (delM mm s)→w.mapTurned w' b→wpList P ops Q rest (a.put o.dst (.tuple #[])) w') :
  wpList P ops Q (o :: rest) a w:=by
 refine wpList_delete_own w hg m x t k hop e (Maps.string_keyed hk) ht R1 b n D hm hown _ _ hx (WideMaps.keyOf_string_mk hk hs) ?_
 intro w' h1 h2
 exact hK w' _ h1 (hD.del s) h2
theorem wpList_nextV (hg:o.guard=none) (it:Operand) (hop:o.op=Op.next it false) (k:TypeId) (hk:P.underlying k=some .string) (b r n:Nat) (D:DataW Value) (mm:ByteArray→Option Value) (left:Lit→Bool) (cnt:Nat)
   (hit:a.eval it=.pointer (some ⟨r,0,none⟩)) (h:w.ranges P k R1 b r n D left cnt) (hD:ValsD D mm)
   (hDone:(∀ kl,left kl=false)→wpList P ops Q rest (a.put o.dst (.tuple #[.bool false])) w)
   (hMore:∀ (s:ByteArray) (u:Value) (w':World) (cnt':Nat),left (.string s.data.toList)=true→mm s=some u→w'.ranges P k R1 b r n D (fun z=>left z && !z.sameKey (.string s.data.toList)) cnt'→cnt' < cnt →
     w.grownBy w' (some r)→w'.heap.size=w.heap.size→(Instr.entry (.pointer (some ⟨r,0,none⟩))).run P w'=.ok (.tuple #[.string s,u]) w'→wpList P ops Q rest (a.put o.dst (.tuple #[.bool true,.string s,u])) w') :
   wpList P ops Q (o :: rest) a w:=by
 refine wpList_next_ranges w hg it hop k (Maps.string_keyed hk) R1 Value.string (fun v:Value=>v) (fun key kl hkey=>?_) (fun v y _=>⟨v,rfl⟩) b r n D left cnt hit h (fun _ hl=>hDone hl) ?_
 · cases key<;>simp [keyOf,hk,mapKey] at hkey
   exact ⟨_,rfl⟩
 · intro s u kl y w' cnt' hkey hlk hv hat hrg hlt hgr hsz hen
   have e:kl=.string s.data.toList:=by
     simp [keyOf,hk,mapKey] at hkey
     exact hkey.2.symm
   subst e
   have hy:y=(.held u,[]):=by unfold R1 at hv;injection hv with hv;exact hv.symm
   subst hy
   have hh:Maps.has D (.string s.data.toList)=true:=Maps.has_true_of_atKey hat
   cases e:mm s with
   | none=>rw [hD.2.1 s,e] at hh;cases hh
   | some x =>
     have hx:=hD.2.2 s x u e
     rw [hat] at hx
     have hx:u=x:=by injection hx
     subst hx
     exact hMore s u w' cnt' hlk e hrg hlt hgr hsz hen
end
theorem turned_low {B b:Nat} {w w1 w2:World} (h:Below B w w1) (ht:w1.mapTurned w2 b) (hb:B≤b) (hs:B≤w.heap.size):Below B w w2:=below_grown h ht.grown (Nat.le_trans hs h.size) (fun k e=>by injection e with e;omega)
end Go.Proofs.YtaekdfcpbepepaaGreatDoor
