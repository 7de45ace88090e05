/- syntax.All over rows of any kind: it asks the function of each element. (gen_all.py wrote it.) -/
import Derived.Test.YtaekdfcpbepepaaGreatDoorQt8
set_option maxRecDepth 100000
set_option maxHeartbeats 8000000
namespace Go.Proofs.YtaekdfcpbepepaaGreatDoor
open Go.RowKit
theorem defn_len (x:DefnT):(encDefn x).len=6:=by unfold encDefn;simp only [TrS.len]
theorem pr_len (x:ByteArray × VT):(encPr x).len=6:=by unfold encPr;rw [TrS.len,encV_len]
theorem pr_cells {w:World} {P:Nat→Prop} {x:ByteArray × VT} {cs:List Value} (h:TS w P (encPr x) cs):∃ A3 k3 A4 k4,cs=[.string x.1,.int .i64 x.2.kd,.int .i64 x.2.nn,.string x.2.ss,.slice A3 x.2.ls.len k3,.slice A4 x.2.ms.len k4]∧x.1.size≤9223372036854775807∧TS w P (encV x.2) [.int .i64 x.2.kd,.int .i64 x.2.nn,.string x.2.ss,.slice A3 x.2.ls.len k3,.slice A4 x.2.ms.len k4]:=by
 unfold encPr at h
 simp only [TS,TP] at h
 obtain ⟨_,_,rfl,⟨rfl,h0⟩,h5⟩:=h
 obtain ⟨A3,k3,A4,k4,rfl,_⟩:=encv_cells h5
 exact ⟨A3,k3,A4,k4,rfl,h0,h5⟩
theorem str_one {w:World} {P:Nat→Prop} {x:ByteArray} {cs:List Value} (h:TS w P (encStr x) cs):cs=[.string x]∧x.size≤9223372036854775807:=by
 simp only [encStr,TS,TP] at h
 obtain ⟨_,_,rfl,⟨rfl,h0⟩,rfl⟩:=h
 exact ⟨rfl,h0⟩
theorem two_boxS {w:World} {g:Nat} {c0 c1:Value} {t:TypeId} (h:w.heap[g]? = some (.cells #[c0,c1] t (0,0))):w.cell? ⟨g,0,none⟩=some c0∧w.cell? ⟨g,1,none⟩=some c1:=by
 simp [World.cell?,h]
theorem all_take_end {α:Type} {l:List α} {p:α→Bool} (h:(l.take l.length).all p=true):l.all p=true:=by rwa [List.take_length] at h
theorem all_take_next {α:Type} {l:List α} {p:α→Bool} {q:Nat} {x:α} (h:(l.take q).all p=true) (hx:l[q]? = some x) (hp:p x=true):(l.take (q+1)).all p=true:=by
 rw [List.take_add_one,hx,List.all_append,h]
 simp [hp]
theorem all_take_no {α:Type} {l:List α} {p:α→Bool} {q:Nat} {x:α} (hx:l[q]? = some x) (hp:p x=false):l.all p=false:=by
 cases h:l.all p
 · rfl
 · have:=List.all_eq_true.1 h x (List.mem_of_getElem? hx)
   rw [hp] at this
   cases this
theorem allDef_any (fn:Nat) (l:List DefnT) (A:Option Addr) (c:Nat) (p:DefnT→Bool) (w:World) (B:Nat) (hB:B≤w.heap.size) (hl:l.length≤9223372036854775807) (hR:RowT w (fun b=>b < B) (rowOf encDefn l) A)
  (he:∀ (args:Array Value) (w:World),(callFunc fn args).run Tryz.prog w=.ok (.enter fn args) w) (hf:∀ x,x ∈ l→∀ (cs:List Value) (W:World),Below w.heap.size w W→TS W (fun b=>b < B) (encDefn x) cs→Calls Tryz.prog fn #[.agg cs.toArray] W fun e W'=>e=.returned (.bool (p x))∧Below W.heap.size W W') :
  Calls Tryz.prog 148 #[.slice A l.length c,.func (.func fn) #[] #[]] w fun e w'=>e=.returned (.bool (l.all p))∧Below w.heap.size w w':=by
 have HR:=Hd hR
 have HF:=Hd hf
 have HB:=Hd hB
 clear hR hf hB
 go_enter Tryz.func148,Tryz.ntmps148
 go_wp2_with fail
 go_loopg [9] l.length (fun g i wx=>∃ q:Nat,q+g=l.length∧i=.int .i64 q∧Aside ((l.take q).all p=true∧Below w.heap.size w wx))
 case atStart=>exact ⟨0,by omega,rfl,Blk.Aside.intro ⟨rfl,Below.refl _ _⟩⟩
 case round =>
  obtain ⟨q,hq,rfl,HX⟩:=hrel
  have HI:=Hd HX.out.1
  have BX:=Hd HX.out.2
  clear HX
  cases gk with
  | zero =>
    obtain rfl:q=l.length:=by omega
    have HE:=Hd (all_take_end HI.out)
    go_wp2_with fail
    go_ret
    exact ⟨by rw [HE.out];rfl,BX.out⟩
  | succ g =>
    have hqn:q < l.length:=by omega
    have hqn':(q:Int) < (l.length:Int):=by omega
    obtain ⟨x,hx⟩:∃ x,l[q]? = some x:=⟨_,List.getElem?_eq_getElem hqn⟩
    obtain ⟨b,o,cs,rfl,hb,hc,hT⟩:=rowOf_at 6 defn_len HR.out hx
    have HBL:=Hd (Nat.lt_of_lt_of_le hb HB.out)
    have hT':=TS.low (BX.out.mono HB.out) hT
    obtain ⟨Af,kf,Ax,kx,Ap,kp,Am,km,rfl,_⟩:=defn_cells hT
    have g0:=(BX.out.cell (p:=⟨b,o+q*6,none⟩) HBL.out).trans (hc 0 _ rfl)
    have g1:=(BX.out.cell (p:=⟨b,o+q*6+1,none⟩) HBL.out).trans (hc 1 _ rfl)
    have g2:=(BX.out.cell (p:=⟨b,o+q*6+2,none⟩) HBL.out).trans (hc 2 _ rfl)
    have g3:=(BX.out.cell (p:=⟨b,o+q*6+3,none⟩) HBL.out).trans (hc 3 _ rfl)
    have g4:=(BX.out.cell (p:=⟨b,o+q*6+4,none⟩) HBL.out).trans (hc 4 _ rfl)
    have g5:=(BX.out.cell (p:=⟨b,o+q*6+5,none⟩) HBL.out).trans (hc 5 _ rfl)
    have HN:=Hd (fun h=>all_take_next (p:=p) HI.out hx h)
    have HM:=Hd (fun h=>all_take_no (p:=p) hx h)
    have HT':=Hd hT'
    have CF:=Hd (HF.out x (List.mem_of_getElem? hx))
    generalize p x=px at CF HN HM
    clear hx hb hT hT' hc
    go_upto_region 4 with fail
    clear g0 g1 g2 g3 g4 g5
    have bn:=dbelow_new wr (.cells #[.int .i64 x.kind,.string x.name,.slice Af x.faces.length kf,.slice Ax x.fields.length kx,.slice Ap x.parts.length kp,.slice Am x.params.length km] 37)
    have B2:=Hd (BX.out.trans (bn.mono BX.out.size))
    have CF:=Hd (CF.out _ _ B2.out (TS.low (bn.mono (Nat.le_trans HB.out BX.out.size)) HT'.out))
    have Y2:=Hd (heap_alloc_new wr (.cells #[.int .i64 x.kind,.string x.name,.slice Af x.faces.length kf,.slice Ax x.fields.length kx,.slice Ap x.parts.length kp,.slice Am x.params.length km] 37))
    generalize wr.alloc (.cells #[.int .i64 x.kind,.string x.name,.slice Af x.faces.length kf,.slice Ax x.fields.length kx,.slice Ap x.parts.length kp,.slice Am x.params.length km] 37)=w2 at B2 Y2 CF ⊢
    generalize wr.heap.size=gb at Y2 ⊢
    obtain ⟨⟨g0,g1,g2,g3,g4,g5⟩,_⟩:=six_cells Y2.out
    clear bn
    go_wp2_with fail
    refine CF.out.mono ?_
    rintro e w3 ⟨rfl,hb3⟩
    have B3:=Hd (B2.out.trans (hb3.mono B2.out.size))
    clear hb3 g0 g1 g2 g3 g4 g5 B2 Y2
    cases px with
    | false =>
      have HE:=Hd (HM.out rfl)
      go_wp2_with fail
      go_ret
      exact ⟨by rw [HE.out];rfl,B3.out⟩
    | true =>
      have HE:=Hd (HN.out rfl)
      go_wp2_with fail
      go_roundg g
      case measure=>omega
      case rel=>exact ⟨q+1,by omega,by go_num,Blk.Aside.intro ⟨HE.out,B3.out⟩⟩
theorem allFld_any (fn:Nat) (l:List FieldT) (A:Option Addr) (c:Nat) (p:FieldT→Bool) (w:World) (B:Nat) (hB:B≤w.heap.size) (hl:l.length≤9223372036854775807) (hR:RowT w (fun b=>b < B) (rowOf encField l) A)
  (he:∀ (args:Array Value) (w:World),(callFunc fn args).run Tryz.prog w=.ok (.enter fn args) w) (hf:∀ x,x ∈ l→∀ (cs:List Value) (W:World),Below w.heap.size w W→TS W (fun b=>b < B) (encField x) cs→Calls Tryz.prog fn #[.agg cs.toArray] W fun e W'=>e=.returned (.bool (p x))∧Below W.heap.size W W') :
  Calls Tryz.prog 192 #[.slice A l.length c,.func (.func fn) #[] #[]] w fun e w'=>e=.returned (.bool (l.all p))∧Below w.heap.size w w':=by
 have HR:=Hd hR
 have HF:=Hd hf
 have HB:=Hd hB
 clear hR hf hB
 go_enter Tryz.func192,Tryz.ntmps192
 go_wp2_with fail
 go_loopg [9] l.length (fun g i wx=>∃ q:Nat,q+g=l.length∧i=.int .i64 q∧Aside ((l.take q).all p=true∧Below w.heap.size w wx))
 case atStart=>exact ⟨0,by omega,rfl,Blk.Aside.intro ⟨rfl,Below.refl _ _⟩⟩
 case round =>
  obtain ⟨q,hq,rfl,HX⟩:=hrel
  have HI:=Hd HX.out.1
  have BX:=Hd HX.out.2
  clear HX
  cases gk with
  | zero =>
    obtain rfl:q=l.length:=by omega
    have HE:=Hd (all_take_end HI.out)
    go_wp2_with fail
    go_ret
    exact ⟨by rw [HE.out];rfl,BX.out⟩
  | succ g =>
    have hqn:q < l.length:=by omega
    have hqn':(q:Int) < (l.length:Int):=by omega
    obtain ⟨x,hx⟩:∃ x,l[q]? = some x:=⟨_,List.getElem?_eq_getElem hqn⟩
    obtain ⟨b,o,cs,rfl,hb,hc,hT⟩:=rowOf_at 6 len_fld HR.out hx
    have HBL:=Hd (Nat.lt_of_lt_of_le hb HB.out)
    have hT':=TS.low (BX.out.mono HB.out) hT
    obtain ⟨Ap,kp,Ad,kd,rfl,_⟩:=fld_cells hT
    have g0:=(BX.out.cell (p:=⟨b,o+q*6,none⟩) HBL.out).trans (hc 0 _ rfl)
    have g1:=(BX.out.cell (p:=⟨b,o+q*6+1,none⟩) HBL.out).trans (hc 1 _ rfl)
    have g2:=(BX.out.cell (p:=⟨b,o+q*6+2,none⟩) HBL.out).trans (hc 2 _ rfl)
    have g3:=(BX.out.cell (p:=⟨b,o+q*6+3,none⟩) HBL.out).trans (hc 3 _ rfl)
    have g4:=(BX.out.cell (p:=⟨b,o+q*6+4,none⟩) HBL.out).trans (hc 4 _ rfl)
    have g5:=(BX.out.cell (p:=⟨b,o+q*6+5,none⟩) HBL.out).trans (hc 5 _ rfl)
    have HN:=Hd (fun h=>all_take_next (p:=p) HI.out hx h)
    have HM:=Hd (fun h=>all_take_no (p:=p) hx h)
    have HT':=Hd hT'
    have CF:=Hd (HF.out x (List.mem_of_getElem? hx))
    generalize p x=px at CF HN HM
    clear hx hb hT hT' hc
    go_upto_region 4 with fail
    clear g0 g1 g2 g3 g4 g5
    have bn:=dbelow_new wr (.cells #[.string x.name,.slice Ap x.params.length kp,.string x.tn,.int .i64 x.tl,.int .i64 x.tm,.slice Ad x.dirs.length kd] 46)
    have B2:=Hd (BX.out.trans (bn.mono BX.out.size))
    have CF:=Hd (CF.out _ _ B2.out (TS.low (bn.mono (Nat.le_trans HB.out BX.out.size)) HT'.out))
    have Y2:=Hd (heap_alloc_new wr (.cells #[.string x.name,.slice Ap x.params.length kp,.string x.tn,.int .i64 x.tl,.int .i64 x.tm,.slice Ad x.dirs.length kd] 46))
    generalize wr.alloc (.cells #[.string x.name,.slice Ap x.params.length kp,.string x.tn,.int .i64 x.tl,.int .i64 x.tm,.slice Ad x.dirs.length kd] 46)=w2 at B2 Y2 CF ⊢
    generalize wr.heap.size=gb at Y2 ⊢
    obtain ⟨⟨g0,g1,g2,g3,g4,g5⟩,_⟩:=six_cells Y2.out
    clear bn
    go_wp2_with fail
    refine CF.out.mono ?_
    rintro e w3 ⟨rfl,hb3⟩
    have B3:=Hd (B2.out.trans (hb3.mono B2.out.size))
    clear hb3 g0 g1 g2 g3 g4 g5 B2 Y2
    cases px with
    | false =>
      have HE:=Hd (HM.out rfl)
      go_wp2_with fail
      go_ret
      exact ⟨by rw [HE.out];rfl,B3.out⟩
    | true =>
      have HE:=Hd (HN.out rfl)
      go_wp2_with fail
      go_roundg g
      case measure=>omega
      case rel=>exact ⟨q+1,by omega,by go_num,Blk.Aside.intro ⟨HE.out,B3.out⟩⟩
theorem allPar_any (fn:Nat) (l:List VarT) (A:Option Addr) (c:Nat) (p:VarT→Bool) (w:World) (B:Nat) (hB:B≤w.heap.size) (hl:l.length≤9223372036854775807) (hR:RowT w (fun b=>b < B) (rowOf encVar l) A)
  (he:∀ (args:Array Value) (w:World),(callFunc fn args).run Tryz.prog w=.ok (.enter fn args) w) (hf:∀ x,x ∈ l→∀ (cs:List Value) (W:World),Below w.heap.size w W→TS W (fun b=>b < B) (encVar x) cs→Calls Tryz.prog fn #[.agg cs.toArray] W fun e W'=>e=.returned (.bool (p x))∧Below W.heap.size W W') :
  Calls Tryz.prog 193 #[.slice A l.length c,.func (.func fn) #[] #[]] w fun e w'=>e=.returned (.bool (l.all p))∧Below w.heap.size w w':=by
 have HR:=Hd hR
 have HF:=Hd hf
 have HB:=Hd hB
 clear hR hf hB
 go_enter Tryz.func193,Tryz.ntmps193
 go_wp2_with fail
 go_loopg [9] l.length (fun g i wx=>∃ q:Nat,q+g=l.length∧i=.int .i64 q∧Aside ((l.take q).all p=true∧Below w.heap.size w wx))
 case atStart=>exact ⟨0,by omega,rfl,Blk.Aside.intro ⟨rfl,Below.refl _ _⟩⟩
 case round =>
  obtain ⟨q,hq,rfl,HX⟩:=hrel
  have HI:=Hd HX.out.1
  have BX:=Hd HX.out.2
  clear HX
  cases gk with
  | zero =>
    obtain rfl:q=l.length:=by omega
    have HE:=Hd (all_take_end HI.out)
    go_wp2_with fail
    go_ret
    exact ⟨by rw [HE.out];rfl,BX.out⟩
  | succ g =>
    have hqn:q < l.length:=by omega
    have hqn':(q:Int) < (l.length:Int):=by omega
    obtain ⟨x,hx⟩:∃ x,l[q]? = some x:=⟨_,List.getElem?_eq_getElem hqn⟩
    obtain ⟨b,o,cs,rfl,hb,hc,hT⟩:=rowOf_at 10 len_par HR.out hx
    have HBL:=Hd (Nat.lt_of_lt_of_le hb HB.out)
    have hT':=TS.low (BX.out.mono HB.out) hT
    obtain ⟨A3,k3,A4,k4,rfl,_⟩:=var_cells hT
    have g0:=(BX.out.cell (p:=⟨b,o+q*10,none⟩) HBL.out).trans (hc 0 _ rfl)
    have g1:=(BX.out.cell (p:=⟨b,o+q*10+1,none⟩) HBL.out).trans (hc 1 _ rfl)
    have g2:=(BX.out.cell (p:=⟨b,o+q*10+2,none⟩) HBL.out).trans (hc 2 _ rfl)
    have g3:=(BX.out.cell (p:=⟨b,o+q*10+3,none⟩) HBL.out).trans (hc 3 _ rfl)
    have g4:=(BX.out.cell (p:=⟨b,o+q*10+4,none⟩) HBL.out).trans (hc 4 _ rfl)
    have g5:=(BX.out.cell (p:=⟨b,o+q*10+5,none⟩) HBL.out).trans (hc 5 _ rfl)
    have g6:=(BX.out.cell (p:=⟨b,o+q*10+6,none⟩) HBL.out).trans (hc 6 _ rfl)
    have g7:=(BX.out.cell (p:=⟨b,o+q*10+7,none⟩) HBL.out).trans (hc 7 _ rfl)
    have g8:=(BX.out.cell (p:=⟨b,o+q*10+8,none⟩) HBL.out).trans (hc 8 _ rfl)
    have g9:=(BX.out.cell (p:=⟨b,o+q*10+9,none⟩) HBL.out).trans (hc 9 _ rfl)
    have HN:=Hd (fun h=>all_take_next (p:=p) HI.out hx h)
    have HM:=Hd (fun h=>all_take_no (p:=p) hx h)
    have HT':=Hd hT'
    have CF:=Hd (HF.out x (List.mem_of_getElem? hx))
    generalize p x=px at CF HN HM
    clear hx hb hT hT' hc
    go_upto_region 4 with fail
    clear g0 g1 g2 g3 g4 g5 g6 g7 g8 g9
    have bn:=dbelow_new wr (.cells #[.string x.name,.string x.tn,.int .i64 x.tl,.int .i64 x.tm,.bool x.has,.int .i64 x.v.kd,.int .i64 x.v.nn,.string x.v.ss,.slice A3 x.v.ls.len k3,.slice A4 x.v.ms.len k4] 60)
    have B2:=Hd (BX.out.trans (bn.mono BX.out.size))
    have CF:=Hd (CF.out _ _ B2.out (TS.low (bn.mono (Nat.le_trans HB.out BX.out.size)) HT'.out))
    have Y2:=Hd (heap_alloc_new wr (.cells #[.string x.name,.string x.tn,.int .i64 x.tl,.int .i64 x.tm,.bool x.has,.int .i64 x.v.kd,.int .i64 x.v.nn,.string x.v.ss,.slice A3 x.v.ls.len k3,.slice A4 x.v.ms.len k4] 60))
    generalize wr.alloc (.cells #[.string x.name,.string x.tn,.int .i64 x.tl,.int .i64 x.tm,.bool x.has,.int .i64 x.v.kd,.int .i64 x.v.nn,.string x.v.ss,.slice A3 x.v.ls.len k3,.slice A4 x.v.ms.len k4] 60)=w2 at B2 Y2 CF ⊢
    generalize wr.heap.size=gb at Y2 ⊢
    obtain ⟨⟨g0,g1,g2,g3,g4,g5,g6,g7,g8,g9⟩,_⟩:=ten_cells Y2.out
    clear bn
    go_wp2_with fail
    refine CF.out.mono ?_
    rintro e w3 ⟨rfl,hb3⟩
    have B3:=Hd (B2.out.trans (hb3.mono B2.out.size))
    clear hb3 g0 g1 g2 g3 g4 g5 g6 g7 g8 g9 B2 Y2
    cases px with
    | false =>
      have HE:=Hd (HM.out rfl)
      go_wp2_with fail
      go_ret
      exact ⟨by rw [HE.out];rfl,B3.out⟩
    | true =>
      have HE:=Hd (HN.out rfl)
      go_wp2_with fail
      go_roundg g
      case measure=>omega
      case rel=>exact ⟨q+1,by omega,by go_num,Blk.Aside.intro ⟨HE.out,B3.out⟩⟩
theorem allDir_any (fn:Nat) (pl:Value) (l:List DirT) (A:Option Addr) (c:Nat) (p:DirT→Bool) (w:World) (B:Nat) (hB:B≤w.heap.size) (hl:l.length≤9223372036854775807) (hR:RowT w (fun b=>b < B) (rowOf encD l) A)
  (he:∀ (args:Array Value) (w:World),(callFunc fn args).run Tryz.prog w=.ok (.enter fn args) w) (hf:∀ x,x ∈ l→∀ (cs:List Value) (W:World),Below w.heap.size w W→TS W (fun b=>b < B) (encD x) cs→Calls Tryz.prog fn #[pl,.agg cs.toArray] W fun e W'=>e=.returned (.bool (p x))∧Below W.heap.size W W') :
  Calls Tryz.prog 194 #[.slice A l.length c,.func (.func fn) #[pl] #[]] w fun e w'=>e=.returned (.bool (l.all p))∧Below w.heap.size w w':=by
 have HR:=Hd hR
 have HF:=Hd hf
 have HB:=Hd hB
 clear hR hf hB
 go_enter Tryz.func194,Tryz.ntmps194
 go_wp2_with fail
 go_loopg [9] l.length (fun g i wx=>∃ q:Nat,q+g=l.length∧i=.int .i64 q∧Aside ((l.take q).all p=true∧Below w.heap.size w wx))
 case atStart=>exact ⟨0,by omega,rfl,Blk.Aside.intro ⟨rfl,Below.refl _ _⟩⟩
 case round =>
  obtain ⟨q,hq,rfl,HX⟩:=hrel
  have HI:=Hd HX.out.1
  have BX:=Hd HX.out.2
  clear HX
  cases gk with
  | zero =>
    obtain rfl:q=l.length:=by omega
    have HE:=Hd (all_take_end HI.out)
    go_wp2_with fail
    go_ret
    exact ⟨by rw [HE.out];rfl,BX.out⟩
  | succ g =>
    have hqn:q < l.length:=by omega
    have hqn':(q:Int) < (l.length:Int):=by omega
    obtain ⟨x,hx⟩:∃ x,l[q]? = some x:=⟨_,List.getElem?_eq_getElem hqn⟩
    obtain ⟨b,o,cs,rfl,hb,hc,hT⟩:=rowOf_at 2 len_dir HR.out hx
    have HBL:=Hd (Nat.lt_of_lt_of_le hb HB.out)
    have hT':=TS.low (BX.out.mono HB.out) hT
    obtain ⟨Ad,kd,rfl,_⟩:=dir_cells hT
    have g0:=(BX.out.cell (p:=⟨b,o+q*2,none⟩) HBL.out).trans (hc 0 _ rfl)
    have g1:=(BX.out.cell (p:=⟨b,o+q*2+1,none⟩) HBL.out).trans (hc 1 _ rfl)
    have HN:=Hd (fun h=>all_take_next (p:=p) HI.out hx h)
    have HM:=Hd (fun h=>all_take_no (p:=p) hx h)
    have HT':=Hd hT'
    have CF:=Hd (HF.out x (List.mem_of_getElem? hx))
    generalize p x=px at CF HN HM
    clear hx hb hT hT' hc
    go_upto_region 4 with fail
    clear g0 g1
    have bn:=dbelow_new wr (.cells #[.string x.1,.slice Ad x.2.len kd] 83)
    have B2:=Hd (BX.out.trans (bn.mono BX.out.size))
    have CF:=Hd (CF.out _ _ B2.out (TS.low (bn.mono (Nat.le_trans HB.out BX.out.size)) HT'.out))
    have Y2:=Hd (heap_alloc_new wr (.cells #[.string x.1,.slice Ad x.2.len kd] 83))
    generalize wr.alloc (.cells #[.string x.1,.slice Ad x.2.len kd] 83)=w2 at B2 Y2 CF ⊢
    generalize wr.heap.size=gb at Y2 ⊢
    obtain ⟨g0,g1⟩:=two_boxS Y2.out
    clear bn
    go_wp2_with fail
    refine CF.out.mono ?_
    rintro e w3 ⟨rfl,hb3⟩
    have B3:=Hd (B2.out.trans (hb3.mono B2.out.size))
    clear hb3 g0 g1 B2 Y2
    cases px with
    | false =>
      have HE:=Hd (HM.out rfl)
      go_wp2_with fail
      go_ret
      exact ⟨by rw [HE.out];rfl,B3.out⟩
    | true =>
      have HE:=Hd (HN.out rfl)
      go_wp2_with fail
      go_roundg g
      case measure=>omega
      case rel=>exact ⟨q+1,by omega,by go_num,Blk.Aside.intro ⟨HE.out,B3.out⟩⟩
theorem allMem_any (fn:Nat) (pl:Value) (l:List (ByteArray × VT)) (A:Option Addr) (c:Nat) (p:(ByteArray × VT)→Bool) (w:World) (B:Nat) (hB:B≤w.heap.size) (hl:l.length≤9223372036854775807) (hR:RowT w (fun b=>b < B) (rowOf encPr l) A)
  (he:∀ (args:Array Value) (w:World),(callFunc fn args).run Tryz.prog w=.ok (.enter fn args) w) (hf:∀ x,x ∈ l→∀ (cs:List Value) (W:World),Below w.heap.size w W→TS W (fun b=>b < B) (encPr x) cs→Calls Tryz.prog fn #[pl,.agg cs.toArray] W fun e W'=>e=.returned (.bool (p x))∧Below W.heap.size W W') :
  Calls Tryz.prog 219 #[.slice A l.length c,.func (.func fn) #[pl] #[]] w fun e w'=>e=.returned (.bool (l.all p))∧Below w.heap.size w w':=by
 have HR:=Hd hR
 have HF:=Hd hf
 have HB:=Hd hB
 clear hR hf hB
 go_enter Tryz.func219,Tryz.ntmps219
 go_wp2_with fail
 go_loopg [9] l.length (fun g i wx=>∃ q:Nat,q+g=l.length∧i=.int .i64 q∧Aside ((l.take q).all p=true∧Below w.heap.size w wx))
 case atStart=>exact ⟨0,by omega,rfl,Blk.Aside.intro ⟨rfl,Below.refl _ _⟩⟩
 case round =>
  obtain ⟨q,hq,rfl,HX⟩:=hrel
  have HI:=Hd HX.out.1
  have BX:=Hd HX.out.2
  clear HX
  cases gk with
  | zero =>
    obtain rfl:q=l.length:=by omega
    have HE:=Hd (all_take_end HI.out)
    go_wp2_with fail
    go_ret
    exact ⟨by rw [HE.out];rfl,BX.out⟩
  | succ g =>
    have hqn:q < l.length:=by omega
    have hqn':(q:Int) < (l.length:Int):=by omega
    obtain ⟨x,hx⟩:∃ x,l[q]? = some x:=⟨_,List.getElem?_eq_getElem hqn⟩
    obtain ⟨b,o,cs,rfl,hb,hc,hT⟩:=rowOf_at 6 pr_len HR.out hx
    have HBL:=Hd (Nat.lt_of_lt_of_le hb HB.out)
    have hT':=TS.low (BX.out.mono HB.out) hT
    obtain ⟨A3,k3,A4,k4,rfl,_⟩:=pr_cells hT
    have g0:=(BX.out.cell (p:=⟨b,o+q*6,none⟩) HBL.out).trans (hc 0 _ rfl)
    have g1:=(BX.out.cell (p:=⟨b,o+q*6+1,none⟩) HBL.out).trans (hc 1 _ rfl)
    have g2:=(BX.out.cell (p:=⟨b,o+q*6+2,none⟩) HBL.out).trans (hc 2 _ rfl)
    have g3:=(BX.out.cell (p:=⟨b,o+q*6+3,none⟩) HBL.out).trans (hc 3 _ rfl)
    have g4:=(BX.out.cell (p:=⟨b,o+q*6+4,none⟩) HBL.out).trans (hc 4 _ rfl)
    have g5:=(BX.out.cell (p:=⟨b,o+q*6+5,none⟩) HBL.out).trans (hc 5 _ rfl)
    have HN:=Hd (fun h=>all_take_next (p:=p) HI.out hx h)
    have HM:=Hd (fun h=>all_take_no (p:=p) hx h)
    have HT':=Hd hT'
    have CF:=Hd (HF.out x (List.mem_of_getElem? hx))
    generalize p x=px at CF HN HM
    clear hx hb hT hT' hc
    go_upto_region 4 with fail
    clear g0 g1 g2 g3 g4 g5
    have bn:=dbelow_new wr (.cells #[.string x.1,.int .i64 x.2.kd,.int .i64 x.2.nn,.string x.2.ss,.slice A3 x.2.ls.len k3,.slice A4 x.2.ms.len k4] 97)
    have B2:=Hd (BX.out.trans (bn.mono BX.out.size))
    have CF:=Hd (CF.out _ _ B2.out (TS.low (bn.mono (Nat.le_trans HB.out BX.out.size)) HT'.out))
    have Y2:=Hd (heap_alloc_new wr (.cells #[.string x.1,.int .i64 x.2.kd,.int .i64 x.2.nn,.string x.2.ss,.slice A3 x.2.ls.len k3,.slice A4 x.2.ms.len k4] 97))
    generalize wr.alloc (.cells #[.string x.1,.int .i64 x.2.kd,.int .i64 x.2.nn,.string x.2.ss,.slice A3 x.2.ls.len k3,.slice A4 x.2.ms.len k4] 97)=w2 at B2 Y2 CF ⊢
    generalize wr.heap.size=gb at Y2 ⊢
    obtain ⟨⟨g0,g1,g2,g3,g4,g5⟩,_⟩:=six_cells Y2.out
    clear bn
    go_wp2_with fail
    refine CF.out.mono ?_
    rintro e w3 ⟨rfl,hb3⟩
    have B3:=Hd (B2.out.trans (hb3.mono B2.out.size))
    clear hb3 g0 g1 g2 g3 g4 g5 B2 Y2
    cases px with
    | false =>
      have HE:=Hd (HM.out rfl)
      go_wp2_with fail
      go_ret
      exact ⟨by rw [HE.out];rfl,B3.out⟩
    | true =>
      have HE:=Hd (HN.out rfl)
      go_wp2_with fail
      go_roundg g
      case measure=>omega
      case rel=>exact ⟨q+1,by omega,by go_num,Blk.Aside.intro ⟨HE.out,B3.out⟩⟩
theorem allStr_any (fn:Nat) (l:List ByteArray) (A:Option Addr) (c:Nat) (p:ByteArray→Bool) (w:World) (B:Nat) (hB:B≤w.heap.size) (hl:l.length≤9223372036854775807) (hR:RowT w (fun b=>b < B) (rowOf encStr l) A)
  (he:∀ (args:Array Value) (w:World),(callFunc fn args).run Tryz.prog w=.ok (.enter fn args) w) (hf:∀ x,x ∈ l→x.size≤9223372036854775807→∀ W:World,Below w.heap.size w W→Calls Tryz.prog fn #[.string x] W fun e W'=>e=.returned (.bool (p x))∧Below W.heap.size W W') :
  Calls Tryz.prog 169 #[.slice A l.length c,.func (.func fn) #[] #[]] w fun e w'=>e=.returned (.bool (l.all p))∧Below w.heap.size w w':=by
 have HR:=Hd hR
 have HF:=Hd hf
 have HB:=Hd hB
 clear hR hf hB
 go_enter Tryz.func169,Tryz.ntmps169
 go_wp2_with fail
 go_loopg [9] l.length (fun g i wx=>∃ q:Nat,q+g=l.length∧i=.int .i64 q∧Aside ((l.take q).all p=true∧Below w.heap.size w wx))
 case atStart=>exact ⟨0,by omega,rfl,Blk.Aside.intro ⟨rfl,Below.refl _ _⟩⟩
 case round =>
  obtain ⟨q,hq,rfl,HX⟩:=hrel
  have HI:=Hd HX.out.1
  have BX:=Hd HX.out.2
  clear HX
  cases gk with
  | zero =>
    obtain rfl:q=l.length:=by omega
    have HE:=Hd (all_take_end HI.out)
    go_wp2_with fail
    go_ret
    exact ⟨by rw [HE.out];rfl,BX.out⟩
  | succ g =>
    have hqn:q < l.length:=by omega
    have hqn':(q:Int) < (l.length:Int):=by omega
    obtain ⟨x,hx⟩:∃ x,l[q]? = some x:=⟨_,List.getElem?_eq_getElem hqn⟩
    obtain ⟨b,o,cs,rfl,hb,hc,hT⟩:=rowOf_at 1 len_str HR.out hx
    have HBL:=Hd (Nat.lt_of_lt_of_le hb HB.out)
    have hT':=TS.low (BX.out.mono HB.out) hT
    obtain ⟨rfl,_⟩:=str_one hT
    have h0:w.cell? ⟨b,o+q,none⟩=some (.string x):=by have h:=hc 0 _ rfl;rw [Nat.mul_one] at h;exact h
    have g0:=(BX.out.cell (p:=⟨b,o+q,none⟩) HBL.out).trans h0
    clear h0
    have HN:=Hd (fun h=>all_take_next (p:=p) HI.out hx h)
    have HM:=Hd (fun h=>all_take_no (p:=p) hx h)
    have hz:=(str_one hT).2
    have CF:=Hd (HF.out x (List.mem_of_getElem? hx) hz _ BX.out)
    generalize p x=px at CF HN HM
    clear hx hb hT hT' hc hz
    go_wp2_with fail
    refine CF.out.mono ?_
    rintro e w3 ⟨rfl,hb3⟩
    have B3:=Hd (BX.out.trans (hb3.mono BX.out.size))
    clear hb3 g0
    cases px with
    | false =>
      have HE:=Hd (HM.out rfl)
      go_wp2_with fail
      go_ret
      exact ⟨by rw [HE.out];rfl,B3.out⟩
    | true =>
      have HE:=Hd (HN.out rfl)
      go_wp2_with fail
      go_roundg g
      case measure=>omega
      case rel=>exact ⟨q+1,by omega,by go_num,Blk.Aside.intro ⟨HE.out,B3.out⟩⟩
def FoundP (x:DefnT × Bool) (B:Nat) (w:World) (e:Ending) (w':World):Prop:=
 ∃ c0 c1 c2 c3 c4 c5,e=.returned (.tuple #[.agg #[c0,c1,c2,c3,c4,c5],.bool x.2])∧TS w' (fun b=>b < w'.heap.size∧(b < B∨w.heap.size≤b)) (encDefn x.1) [c0,c1,c2,c3,c4,c5]∧Below w.heap.size w w'
theorem find_own (S:SchT) (n:ByteArray) (c0 c1 c2:Value) (w:World) (B:Nat) (hB:B≤w.heap.size) (hn:n.size≤9223372036854775807) (hz:SlimS S) (hS:TS w (fun b=>b < B) (encSch S) [c0,c1,c2]) :
  Calls Tryz.prog 18 #[.agg #[c0,c1,c2],.string n] w (FoundP (findD S.defs n) B w):=by
 have F:=Hd (fun (wx:World) (hb:Below w.heap.size w wx)=>find_any S n c0 c1 c2 wx B (Nat.le_trans hB hb.size) hn (TS.low (hb.mono hB) hS))
 have FS:=Hd (find_slim hz.2 n)
 have HB:=Hd hB
 obtain ⟨A,k,e,_⟩:=sch_cells hS
 injection e with e0 e
 injection e with e1 e
 injection e with e2 e
 subst e0 e1 e2
 clear hB e hn hS hz
 generalize findD S.defs n=x at F FS ⊢
 have X0:=Hd (FR.start w (.slice A S.defs.length k) (.string S.query) (.string S.mutation) (.cells #[.int .i64 0,.string ⟨#[]⟩,.slice none 0 0,.slice none 0 0,.slice none 0 0,.slice none 0 0] 37))
 go_enter Tryz.func18,Tryz.ntmps18
 go_wp2_with fail
 refine (F.out _ X0.out.low).mono ?_
 rintro e w1 ⟨d0,d1,d2,d3,d4,d5,rfl,hT,hb1⟩
 have X1:=Hd (X0.out.next hb1)
 have T1:=Hd hT
 have D1:=Hd (fun o=>owndf_any x.1 d0 d1 d2 d3 d4 d5 (w1.alloc o) (fun b=>b < B) (fun b hb=>Nat.lt_of_lt_of_le hb (Nat.le_trans HB.out (Nat.le_trans X1.out.low.size (dbelow_new w1 o).size))) FS.out (TS.low ((dbelow_new w1 o).mono (Nat.le_trans HB.out X1.out.low.size)) T1.out))
 obtain ⟨Af,kf,Ax,kx,Ap,kp,Am,km,e,_⟩:=defn_cells hT
 simp only [List.cons.injEq,and_true] at e
 obtain ⟨rfl,rfl,rfl,rfl,rfl,rfl⟩:=e
 clear hT hb1 F X0
 go_wp2_with fail
 refine (D1.out _).mono ?_
 rintro e w2 ⟨A1,k1,A2,k2,A3,k3,A4,k4,rfl,hT2,hb2⟩
 have X2:=Hd ((X1.out.next (dbelow_new w1 _)).next hb2)
 have T2:=Hd hT2
 obtain ⟨⟨z0,z1,z2,z3,z4,z5⟩,v0,v1,v2,v3,v4,v5⟩:=six_cells X2.out.res
 have hs1:=X1.out.size
 clear hT2 hb2 D1 X1 T1
 go_wp2_with fail
 refine ret_d2 rfl rfl rfl (six_set X2.out.res) ?_
 refine ⟨_,_,_,_,_,_,rfl,TS.keep (fun b hb=>⟨⟨by simpa [World.setCell] using hb.1,hb.2.imp_right (fun h=>by simp at h;omega)⟩,six_heap (hb.ne (g:=w.heap.size+1) (fun b h=>by have:=HB.out;omega) (by simp;omega))⟩) _ _ T2.out,six_low (b:=w.heap.size+1) X2.out.low (Nat.le_succ _)⟩
structure FB (w:World) (M:Nat) (c0 c1 c2:Value) (W:World):Prop where
 low:Below w.heap.size w W
 size:w.heap.size+2≤W.heap.size
 box:W.heap[w.heap.size]? = some (.cells #[c0,c1,c2,.map (some M)] 157 (0,0))
 res:W.heap[w.heap.size+1]? = some (.cells #[.int .i64 0,.string ⟨#[]⟩,.slice none 0 0,.slice none 0 0,.slice none 0 0,.slice none 0 0] 37 (0,0))
theorem FB.start (w:World) (M:Nat) (c0 c1 c2:Value):FB w M c0 c1 c2 ((w.alloc (.cells #[c0,c1,c2,.map (some M)] 157)).alloc (.cells #[.int .i64 0,.string ⟨#[]⟩,.slice none 0 0,.slice none 0 0,.slice none 0 0,.slice none 0 0] 37)):=
 ⟨tbl w _ _,by rw [two_size];exact Nat.le_refl _,(Below.heap_alloc (w.alloc (.cells #[c0,c1,c2,.map (some M)] 157)) _ w.heap.size (by simp)).trans (heap_alloc_new w (.cells #[c0,c1,c2,.map (some M)] 157)),heap_two w _ _⟩
theorem grown_of {w w':World} (h:Below w.heap.size w w'):w.grownBy w' none:=⟨h.os,h.tape,h.output,h.size,fun j hj _=>h.block j hj⟩
theorem four_cells {w:World} {g:Nat} {c0 c1 c2 c3:Value} {t:TypeId} (h:w.heap[g]? = some (.cells #[c0,c1,c2,c3] t (0,0))):w.cell? ⟨g,0,none⟩=some c0∧w.cell? ⟨g,1,none⟩=some c1∧w.cell? ⟨g,2,none⟩=some c2∧w.cell? ⟨g,3,none⟩=some c3:=by
 simp [World.cell?,h]
theorem FB.next {w W W':World} {M:Nat} {c0 c1 c2:Value} (h:FB w M c0 c1 c2 W) (hb:Below W.heap.size W W'):FB w M c0 c1 c2 W':=by
 have hs:=h.size
 exact ⟨h.low.trans (hb.mono h.low.size),Nat.le_trans h.size hb.size,(hb.block _ (by omega)).trans h.box,(hb.block _ (by omega)).trans h.res⟩
theorem six_mo {M:Nat} {w0 w:World} {b:Nat} {c0 c1 c2 c3 c4 c5:Value} (h:MoX M w0 w) (hb:w0.heap.size≤b):MoX M w0 ((((((w.setCell ⟨b,0,none⟩ c0).setCell ⟨b,1,none⟩ c1).setCell ⟨b,2,none⟩ c2).setCell ⟨b,3,none⟩ c3).setCell ⟨b,4,none⟩ c4).setCell ⟨b,5,none⟩ c5):=
 (((((h.set (p:=⟨b,0,none⟩) hb _).set (p:=⟨b,1,none⟩) hb _).set (p:=⟨b,2,none⟩) hb _).set (p:=⟨b,3,none⟩) hb _).set (p:=⟨b,4,none⟩) hb _).set (p:=⟨b,5,none⟩) hb _
theorem grown_six (w:World) (b:Nat) {c0 c1 c2 c3 c4 c5:Value} : w.grownBy ((((((w.setCell ⟨b,0,none⟩ c0).setCell ⟨b,1,none⟩ c1).setCell ⟨b,2,none⟩ c2).setCell ⟨b,3,none⟩ c3).setCell ⟨b,4,none⟩ c4).setCell ⟨b,5,none⟩ c5) (some b):=
 ⟨by simp [World.setCell],by simp [World.setCell],by simp [World.setCell],by simp [World.setCell],fun k _ h=>six_heap (fun e=>h (by rw [e]))⟩
def FoundC (D:List DefnT) (X:Nat→Prop) (KS:List ByteArray) (M:Nat) (n:ByteArray) (w:World) (e:Ending) (w':World):Prop:=
 ∃ d0 d1 d2 d3 d4 d5,e=.returned (.agg #[d0,d1,d2,d3,d4,d5])∧TS w' (fun b=>b < w'.heap.size∧¬ X b) (encDefn (findD D n).1) [d0,d1,d2,d3,d4,d5]∧MoX M w w'∧MOK D X KS M w'
theorem cfind_any (S:SchT) (n:ByteArray) (c0 c1 c2:Value) (w:World) (B M:Nat) (X:Nat→Prop) (KS:List ByteArray) (hB:B≤M) (hX:∀ b,X b→b < w.heap.size) (hXM:X M) (hXB:∀ b,b < B→¬ X b) (hK:n ∈ KS) (hKS:KS.length≤maxLen) (hn:n.size≤maxLen) (hz:SlimS S)
   (hS:TS w (fun b=>b < B) (encSch S) [c0,c1,c2]) (hO:MOK S.defs X KS M w) :
   Calls Tryz.prog 206 #[.agg #[c0,c1,c2,.map (some M)],.string n] w (FoundC S.defs X KS M n w):=by
 have hMl:=hO.lt
 have hn':n.size≤9223372036854775807:=by unfold maxLen at hn;omega
 have F:=Hd (fun (wx:World) (hb:Below w.heap.size w wx)=>find_own S n c0 c1 c2 wx B (by have:=hb.size;omega) hn' hz (TS.low (hb.mono (by omega)) hS))
 obtain ⟨A,k,e,_⟩:=sch_cells hS
 injection e with e0 e
 injection e with e1 e
 injection e with e2 e
 subst e0 e1 e2
 clear e hS hz hn'
 have HN:=Hd hn
 have HX:=Hd hX
 have HXB:=Hd hXB
 have HK:=Hd (And.intro hK (And.intro hKS hXM))
 have X0:=Hd (FB.start w M (.slice A S.defs.length k) (.string S.query) (.string S.mutation))
 obtain ⟨ents,m,hm,hnd,hsub,hD⟩:=hO
 have HM:=Hd (hm.kept (row:=none) (grown_of X0.out.low) (by simp))
 have HM0:=Hd hm
 have HND:=Hd (And.intro hnd hsub)
 have HD:=Hd hD
 clear hn hX hXB hK hKS hXM hm hnd hsub hD
 go_enter Tryz.func206,Tryz.ntmps206
 go_upto_region 1 with fail
 generalize (w.alloc (.cells #[.slice A S.defs.length k,.string S.query,.string S.mutation,.map (some M)] 157)).alloc (.cells #[.int .i64 0,.string ⟨#[]⟩,.slice none 0 0,.slice none 0 0,.slice none 0 0,.slice none 0 0] 37)=w1 at X0 HM ⊢
 obtain ⟨x0,x1,x2,x3⟩:=four_cells X0.out.box
 have LK:=cache_look HM.out HD.out n HN.out
 obtain ⟨x,hx⟩:∃ x,findD S.defs n=x:=⟨_,rfl⟩
 have HXE:=Hd hx
 have PUT:=fun (W:World) {d0 d1 d2 d3 d4 d5:Value} (h:CacheD S.defs X W ents m) (hT:TS W (fun b=>b < W.heap.size∧¬ X b) (encDefn x.1) [d0,d1,d2,d3,d4,d5])=>CacheD.put (s:=n) h (by rw [hx];exact hT)
 have HP:=Hd PUT
 rw [hx] at F LK
 clear hx PUT
 rcases LK with ⟨hne,hrun⟩|⟨d0,d1,d2,d3,d4,d5,hin,hrun,hT⟩
 · have HNE:=Hd hne
   clear hne
   unfold zeroDv at hrun
   go_upto_region 2 with fail
   have B2:=Hd (dbelow_new w1 (.cells #[.int .i64 0,.string ⟨#[]⟩,.slice none 0 0,.slice none 0 0,.slice none 0 0,.slice none 0 0] 37))
   have Y2:=Hd (heap_alloc_new w1 (.cells #[.int .i64 0,.string ⟨#[]⟩,.slice none 0 0,.slice none 0 0,.slice none 0 0,.slice none 0 0] 37))
   generalize w1.alloc (.cells #[.int .i64 0,.string ⟨#[]⟩,.slice none 0 0,.slice none 0 0,.slice none 0 0,.slice none 0 0] 37)=w2 at B2 Y2 ⊢
   have X2:=Hd (X0.out.next B2.out)
   have hlt1:=(Array.getElem?_eq_some_iff.1 Y2.out).1
   have hs1:=X0.out.size
   have HL2:=Hd (show w1.heap.size+1≤w2.heap.size by have:=(Array.getElem?_eq_some_iff.1 Y2.out).1;omega)
   obtain ⟨g,hg⟩:∃ g,w1.heap.size=g:=⟨_,rfl⟩
   have HG:=Hd hg
   rw [hg] at Y2 hs1 hlt1 HL2 ⊢
   clear x0 x1 x2 x3 hrun hg
   obtain ⟨x0,x1,x2,x3⟩:=four_cells X2.out.box
   go_wp2_with fail
   refine (F.out _ X2.out.low).mono ?_
   rintro e w3 ⟨d0,d1,d2,d3,d4,d5,rfl,hT,hb3⟩
   obtain ⟨Df,q0,Dx,q1,Dp,q2,Dm,q3,e,_⟩:=defn_cells hT
   simp only [List.cons.injEq,and_true] at e
   obtain ⟨rfl,rfl,rfl,rfl,rfl,rfl⟩:=e
   have B3:=Hd hb3
   have HT:=Hd hT
   have X3:=Hd (X2.out.next hb3)
   have Y3:=Hd ((hb3.block g hlt1).trans Y2.out)
   obtain ⟨⟨y0,y1,y2,y3,y4,y5⟩,v0,v1,v2,v3,v4,v5⟩:=six_cells Y3.out
   clear hT hb3 x0 x1 x2 x3
   go_upto_region 4 with fail
   clear y0 y1 y2 y3 y4 y5 v0 v1 v2 v3 v4 v5
   have hwg:w.heap.size+2≤g:=hs1
   have Y4:=six_set (c0:=.int .i64 x.1.kind) (c1:=.string x.1.name) (c2:=.slice Df x.1.faces.length q0) (c3:=.slice Dx x.1.fields.length q1) (c4:=.slice Dp x.1.parts.length q2) (c5:=.slice Dm x.1.params.length q3) Y3.out
   have B4:=Hd (six_low (c0:=.int .i64 x.1.kind) (c1:=.string x.1.name) (c2:=.slice Df x.1.faces.length q0) (c3:=.slice Dx x.1.fields.length q1) (c4:=.slice Dp x.1.parts.length q2) (c5:=.slice Dm x.1.params.length q3) (b:=g) X3.out.low (by omega))
   have T4:=Hd (TS.keep (w':=((((((w3.setCell ⟨g,0,none⟩ (.int .i64 x.1.kind)).setCell ⟨g,1,none⟩ (.string x.1.name)).setCell ⟨g,2,none⟩ (.slice Df x.1.faces.length q0)).setCell ⟨g,3,none⟩ (.slice Dx x.1.fields.length q1)).setCell ⟨g,4,none⟩ (.slice Dp x.1.parts.length q2)).setCell ⟨g,5,none⟩ (.slice Dm x.1.params.length q3))) (P':=fun b=>(b < B∨(w.heap.size+2≤b∧b ≠ g))∧b < ((((((w3.setCell ⟨g,0,none⟩ (.int .i64 x.1.kind)).setCell ⟨g,1,none⟩ (.string x.1.name)).setCell ⟨g,2,none⟩ (.slice Df x.1.faces.length q0)).setCell ⟨g,3,none⟩ (.slice Dx x.1.fields.length q1)).setCell ⟨g,4,none⟩ (.slice Dp x.1.parts.length q2)).setCell ⟨g,5,none⟩ (.slice Dm x.1.params.length q3)).heap.size) (fun b hb=>⟨⟨hb.2.imp_right (fun h=>by have h2:=HL2.out;omega),by simpa [World.setCell] using hb.1⟩,six_heap (by have h2:=HL2.out;have:=HG.out;rcases hb.2 with h|h<;>omega)⟩) _ _ HT.out)
   have X4:((((((w3.setCell ⟨g,0,none⟩ (.int .i64 x.1.kind)).setCell ⟨g,1,none⟩ (.string x.1.name)).setCell ⟨g,2,none⟩ (.slice Df x.1.faces.length q0)).setCell ⟨g,3,none⟩ (.slice Dx x.1.fields.length q1)).setCell ⟨g,4,none⟩ (.slice Dp x.1.parts.length q2)).setCell ⟨g,5,none⟩ (.slice Dm x.1.params.length q3)).heap[w.heap.size]? = _:=(six_heap (by omega)).trans X3.out.box
   have R4:((((((w3.setCell ⟨g,0,none⟩ (.int .i64 x.1.kind)).setCell ⟨g,1,none⟩ (.string x.1.name)).setCell ⟨g,2,none⟩ (.slice Df x.1.faces.length q0)).setCell ⟨g,3,none⟩ (.slice Dx x.1.fields.length q1)).setCell ⟨g,4,none⟩ (.slice Dp x.1.parts.length q2)).setCell ⟨g,5,none⟩ (.slice Dm x.1.params.length q3)).heap[w.heap.size+1]? = _:=(six_heap (by omega)).trans X3.out.res
   generalize ((((((w3.setCell ⟨g,0,none⟩ (.int .i64 x.1.kind)).setCell ⟨g,1,none⟩ (.string x.1.name)).setCell ⟨g,2,none⟩ (.slice Df x.1.faces.length q0)).setCell ⟨g,3,none⟩ (.slice Dx x.1.fields.length q1)).setCell ⟨g,4,none⟩ (.slice Dp x.1.parts.length q2)).setCell ⟨g,5,none⟩ (.slice Dm x.1.params.length q3))=w4 at Y4 B4 T4 X4 R4 ⊢
   obtain ⟨x0,x1,x2,x3⟩:=four_cells X4
   obtain ⟨⟨y0,y1,y2,y3,y4,y5⟩,_⟩:=six_cells Y4
   have M4:=Hd (HM0.out.kept (row:=none) (grown_of B4.out) (by simp))
   have hkey:=WideMaps.keyOf_string_mk (P:=Tryz.prog) Tryz.underlying9 HN.out
   have HMAX:ents.length < maxLen:=by
    have h1:=nodup_le (L:=n :: ents) (K:=KS) (List.nodup_cons.2 ⟨HNE.out,HND.out.1⟩) (fun s hs=>(List.mem_cons.1 hs).elim (fun h=>h ▸ HK.out.1) (HND.out.2 s))
    have h2:=HK.out.2.1
    rw [List.length_cons] at h1
    omega
   have HY4:=Hd Y4
   have HX4:=Hd X4
   have HR4:=Hd R4
   clear Y4 X4 R4 Y3 X3 HT
   go_wp2_with (at_mapUpdate;refine wpList_mapUpdate_own _ rfl _ _ _ 148 rfl 9 37 (Maps.string_keyed Tryz.underlying9) Tryz.underlying148 Rh M ents.length m rfl M4.out HMAX _ _ _ rfl rfl hkey (.held (.agg #[.int .i64 x.1.kind,.string x.1.name,.slice Df x.1.faces.length q0,.slice Dx x.1.fields.length q1,.slice Dp x.1.parts.length q2,.slice Dm x.1.params.length q3])) [] rfl ?_;intro w5 hm5 hg5;have HM5:=Hd hm5;have HG5:=Hd hg5;have Y5:=(hg5.block g (Array.getElem?_eq_some_iff.1 HY4.out).1 (fun e=>by injection e;omega)).trans HY4.out;have R5:=(hg5.block (w.heap.size+1) (Array.getElem?_eq_some_iff.1 HR4.out).1 (fun e=>by injection e;omega)).trans HR4.out;obtain ⟨⟨z0,z1,z2,z3,z4,z5⟩,_⟩:=six_cells Y5;obtain ⟨⟨r0,r1,r2,r3,r4,r5⟩,v0,v1,v2,v3,v4,v5⟩:=six_cells R5;have HR5:=Hd R5;clear hm5 hg5 x0 x1 x2 x3 y0 y1 y2 y3 y4 y5 R5 Y5)
   refine ret_dfn rfl rfl rfl (six_set HR5.out) ?_
   have M6:MoX M w _:=six_mo (c0:=.int .i64 x.1.kind) (c1:=.string x.1.name) (c2:=.slice Df x.1.faces.length q0) (c3:=.slice Dx x.1.fields.length q1) (c4:=.slice Dp x.1.parts.length q2) (c5:=.slice Dm x.1.params.length q3) (b:=w.heap.size+1) ((MoX.of_below B4.out).grown HG5.out) (Nat.le_succ _)
   have hs4:=B4.out.size
   have hs5:=HG5.out.size
   have T6:=TS.keep (w':=((((((w5.setCell ⟨w.heap.size+1,0,none⟩ (.int .i64 x.1.kind)).setCell ⟨w.heap.size+1,1,none⟩ (.string x.1.name)).setCell ⟨w.heap.size+1,2,none⟩ (.slice Df x.1.faces.length q0)).setCell ⟨w.heap.size+1,3,none⟩ (.slice Dx x.1.fields.length q1)).setCell ⟨w.heap.size+1,4,none⟩ (.slice Dp x.1.parts.length q2)).setCell ⟨w.heap.size+1,5,none⟩ (.slice Dm x.1.params.length q3))) (P':=fun b=>b < ((((((w5.setCell ⟨w.heap.size+1,0,none⟩ (.int .i64 x.1.kind)).setCell ⟨w.heap.size+1,1,none⟩ (.string x.1.name)).setCell ⟨w.heap.size+1,2,none⟩ (.slice Df x.1.faces.length q0)).setCell ⟨w.heap.size+1,3,none⟩ (.slice Dx x.1.fields.length q1)).setCell ⟨w.heap.size+1,4,none⟩ (.slice Dp x.1.parts.length q2)).setCell ⟨w.heap.size+1,5,none⟩ (.slice Dm x.1.params.length q3)).heap.size∧¬ X b) (fun b hb=>by
    obtain ⟨h1,h2⟩:=hb
    have hXb : ¬ X b:=fun h=>by
     have:=HX.out b h
     have hMx:=HK.out.2.2
     rcases h1 with h1|h1
     · exact HXB.out b h1 h
     · omega
    refine ⟨⟨by simp [World.setCell];omega,hXb⟩,(six_heap (by rcases h1 with h1|h1<;>omega)).trans (HG5.out.block b h2 (fun e=>by injection e with e;exact hXb (e ▸ HK.out.2.2)))⟩) _ _ T4.out
   unfold FoundC
   rw [HXE.out]
   refine ⟨_,_,_,_,_,_,rfl,T6,M6,n :: ents,_,?_,List.nodup_cons.2 ⟨HNE.out,HND.out.1⟩,fun s hs=>(List.mem_cons.1 hs).elim (fun h=>h ▸ HK.out.1) (HND.out.2 s),HP.out _ (HD.out.keep M6.size (fun b h1 h2=>M6.block b h1 (fun e=>h2 (e ▸ HK.out.2.2)))) T6⟩
   exact HM5.out.kept (row:=some (w.heap.size+1)) (grown_six _ _) (fun e=>by injection e;omega)
 · have HT:=Hd hT
   obtain ⟨Df,q0,Dx,q1,Dp,q2,Dm,q3,e,_⟩:=defn_cells hT
   simp only [List.cons.injEq,and_true] at e
   obtain ⟨rfl,rfl,rfl,rfl,rfl,rfl⟩:=e
   clear hT
   obtain ⟨x,ok⟩:=x
   dsimp only at *
   go_upto_region 2 with fail
   have B2:=Hd (dbelow_new w1 (.cells #[.int .i64 x.kind,.string x.name,.slice Df x.faces.length q0,.slice Dx x.fields.length q1,.slice Dp x.parts.length q2,.slice Dm x.params.length q3] 37))
   have Y2:=heap_alloc_new w1 (.cells #[.int .i64 x.kind,.string x.name,.slice Df x.faces.length q0,.slice Dx x.fields.length q1,.slice Dp x.parts.length q2,.slice Dm x.params.length q3] 37)
   generalize w1.alloc (.cells #[.int .i64 x.kind,.string x.name,.slice Df x.faces.length q0,.slice Dx x.fields.length q1,.slice Dp x.parts.length q2,.slice Dm x.params.length q3] 37)=w2 at B2 Y2 ⊢
   have X2:=Hd (X0.out.next B2.out)
   generalize w1.heap.size=g at Y2 ⊢
   obtain ⟨⟨y0,y1,y2,y3,y4,y5⟩,_⟩:=six_cells Y2
   obtain ⟨⟨z0,z1,z2,z3,z4,z5⟩,v0,v1,v2,v3,v4,v5⟩:=six_cells X2.out.res
   clear Y2 x0 x1 x2 x3 hrun
   go_wp2_with fail
   refine ret_dfn rfl rfl rfl (six_set X2.out.res) ?_
   have B4:=six_low (c0:=.int .i64 x.kind) (c1:=.string x.name) (c2:=.slice Df x.faces.length q0) (c3:=.slice Dx x.fields.length q1) (c4:=.slice Dp x.parts.length q2) (c5:=.slice Dm x.params.length q3) (b:=w.heap.size+1) X2.out.low (Nat.le_succ _)
   unfold FoundC
   rw [HXE.out]
   exact ⟨_,_,_,_,_,_,rfl,TS.keep (P:=fun b=>b < w.heap.size∧¬ X b) (fun b hb=>⟨⟨Nat.lt_of_lt_of_le hb.1 B4.size,hb.2⟩,B4.block b hb.1⟩) _ _ HT.out,MoX.of_below B4,MOK.low ⟨ents,m,HM0.out,HND.out.1,HND.out.2,HD.out⟩ B4⟩
end Go.Proofs.YtaekdfcpbepepaaGreatDoor
