/- syntax.All over rows of any kind: it asks the function of each element. (gen_all.py wrote it.) -/
import Derived.Test.YtbgenomboagmaaaGreatDoorQs9
set_option maxRecDepth 100000
set_option maxHeartbeats 4000000
namespace Go.Proofs.YtbgenomboagmaaaGreatDoor
open Go.RowKit
theorem defn_len (x:DefnT):(encDefn x).len=6:=by unfold encDefn;simp only [TrS.len]
theorem pr_len (x:ByteArray × VT):(encPr x).len=6:=by unfold encPr;rw [TrS.len,encV_len]
theorem pr_cells {w:World} {P:Nat→Prop} {x:ByteArray × VT} {cs:List Value} (h:TS w P (encPr x) cs):∃ A3 k3 A4 k4,cs=[.string x.1,.int .i64 x.2.kd,.int .i64 x.2.nn,.string x.2.ss,.slice A3 x.2.ls.len k3,.slice A4 x.2.ms.len k4]∧x.1.size≤9223372036854775807∧TS w P (encV x.2) [.int .i64 x.2.kd,.int .i64 x.2.nn,.string x.2.ss,.slice A3 x.2.ls.len k3,.slice A4 x.2.ms.len k4]:=by
 unfold encPr at h
 simp only [TS,TP] at h
 obtain ⟨_,_,rfl,⟨rfl,h0⟩,h5⟩:=h
 obtain ⟨A3,k3,A4,k4,rfl,_⟩:=encv_cells h5
 exact ⟨A3,k3,A4,k4,rfl,h0,h5⟩
theorem str_one {w:World} {P:Nat→Prop} {x:ByteArray} {cs:List Value} (h:TS w P (encStr x) cs):cs=[.string x]∧x.size≤9223372036854775807:=by
 simp only [encStr,TS,TP] at h
 obtain ⟨_,_,rfl,⟨rfl,h0⟩,rfl⟩:=h
 exact ⟨rfl,h0⟩
theorem two_boxS {w:World} {g:Nat} {c0 c1:Value} {t:TypeId} (h:w.heap[g]? = some (.cells #[c0,c1] t (0,0))):w.cell? ⟨g,0,none⟩=some c0∧w.cell? ⟨g,1,none⟩=some c1:=by
 simp [World.cell?,h]
theorem all_take_end {α:Type} {l:List α} {p:α→Bool} (h:(l.take l.length).all p=true):l.all p=true:=by rwa [List.take_length] at h
theorem all_take_next {α:Type} {l:List α} {p:α→Bool} {q:Nat} {x:α} (h:(l.take q).all p=true) (hx:l[q]? = some x) (hp:p x=true):(l.take (q+1)).all p=true:=by
 rw [List.take_add_one,hx,List.all_append,h]
 simp [hp]
theorem all_take_no {α:Type} {l:List α} {p:α→Bool} {q:Nat} {x:α} (hx:l[q]? = some x) (hp:p x=false):l.all p=false:=by
 cases h:l.all p
 · rfl
 · have:=List.all_eq_true.1 h x (List.mem_of_getElem? hx)
   rw [hp] at this
   cases this
theorem allDef_any (fn:Nat) (l:List DefnT) (A:Option Addr) (c:Nat) (p:DefnT→Bool) (w:World) (B:Nat) (hB:B≤w.heap.size) (hl:l.length≤9223372036854775807) (hR:RowT w (fun b=>b < B) (rowOf encDefn l) A)
  (he:∀ (args:Array Value) (w:World),(callFunc fn args).run Tryz.prog w=.ok (.enter fn args) w) (hf:∀ x,x ∈ l→∀ (cs:List Value) (W:World),Below w.heap.size w W→TS W (fun b=>b < B) (encDefn x) cs→Calls Tryz.prog fn #[.agg cs.toArray] W fun e W'=>e=.returned (.bool (p x))∧Below W.heap.size W W') :
  Calls Tryz.prog 174 #[.slice A l.length c,.func (.func fn) #[] #[]] w fun e w'=>e=.returned (.bool (l.all p))∧Below w.heap.size w w':=by
 have HR:=Hd hR
 have HF:=Hd hf
 have HB:=Hd hB
 clear hR hf hB
 go_enter Tryz.func174,Tryz.ntmps174
 go_wp2_with fail
 go_loopg [9] l.length (fun g i wx=>∃ q:Nat,q+g=l.length∧i=.int .i64 q∧Aside ((l.take q).all p=true∧Below w.heap.size w wx))
 case atStart=>exact ⟨0,by omega,rfl,Blk.Aside.intro ⟨rfl,Below.refl _ _⟩⟩
 case round =>
  obtain ⟨q,hq,rfl,HX⟩:=hrel
  have HI:=Hd HX.out.1
  have BX:=Hd HX.out.2
  clear HX
  cases gk with
  | zero =>
    obtain rfl:q=l.length:=by omega
    have HE:=Hd (all_take_end HI.out)
    go_wp2_with fail
    go_ret
    exact ⟨by rw [HE.out];rfl,BX.out⟩
  | succ g =>
    have hqn:q < l.length:=by omega
    have hqn':(q:Int) < (l.length:Int):=by omega
    obtain ⟨x,hx⟩:∃ x,l[q]? = some x:=⟨_,List.getElem?_eq_getElem hqn⟩
    obtain ⟨b,o,cs,rfl,hb,hc,hT⟩:=rowOf_at 6 defn_len HR.out hx
    have HBL:=Hd (Nat.lt_of_lt_of_le hb HB.out)
    have hT':=TS.low (BX.out.mono HB.out) hT
    obtain ⟨Af,kf,Ax,kx,Ap,kp,Am,km,rfl,_⟩:=defn_cells hT
    have g0:=(BX.out.cell (p:=⟨b,o+q*6,none⟩) HBL.out).trans (hc 0 _ rfl)
    have g1:=(BX.out.cell (p:=⟨b,o+q*6+1,none⟩) HBL.out).trans (hc 1 _ rfl)
    have g2:=(BX.out.cell (p:=⟨b,o+q*6+2,none⟩) HBL.out).trans (hc 2 _ rfl)
    have g3:=(BX.out.cell (p:=⟨b,o+q*6+3,none⟩) HBL.out).trans (hc 3 _ rfl)
    have g4:=(BX.out.cell (p:=⟨b,o+q*6+4,none⟩) HBL.out).trans (hc 4 _ rfl)
    have g5:=(BX.out.cell (p:=⟨b,o+q*6+5,none⟩) HBL.out).trans (hc 5 _ rfl)
    have HN:=Hd (fun h=>all_take_next (p:=p) HI.out hx h)
    have HM:=Hd (fun h=>all_take_no (p:=p) hx h)
    have HT':=Hd hT'
    have CF:=Hd (HF.out x (List.mem_of_getElem? hx))
    generalize p x=px at CF HN HM
    clear hx hb hT hT' hc
    go_upto_region 4 with fail
    clear g0 g1 g2 g3 g4 g5
    have bn:=dbelow_new wr (.cells #[.int .i64 x.kind,.string x.name,.slice Af x.faces.length kf,.slice Ax x.fields.length kx,.slice Ap x.parts.length kp,.slice Am x.params.length km] 37)
    have B2:=Hd (BX.out.trans (bn.mono BX.out.size))
    have CF:=Hd (CF.out _ _ B2.out (TS.low (bn.mono (Nat.le_trans HB.out BX.out.size)) HT'.out))
    have Y2:=Hd (heap_alloc_new wr (.cells #[.int .i64 x.kind,.string x.name,.slice Af x.faces.length kf,.slice Ax x.fields.length kx,.slice Ap x.parts.length kp,.slice Am x.params.length km] 37))
    generalize wr.alloc (.cells #[.int .i64 x.kind,.string x.name,.slice Af x.faces.length kf,.slice Ax x.fields.length kx,.slice Ap x.parts.length kp,.slice Am x.params.length km] 37)=w2 at B2 Y2 CF ⊢
    generalize wr.heap.size=gb at Y2 ⊢
    obtain ⟨⟨g0,g1,g2,g3,g4,g5⟩,_⟩:=six_cells Y2.out
    clear bn
    go_wp2_with fail
    refine CF.out.mono ?_
    rintro e w3 ⟨rfl,hb3⟩
    have B3:=Hd (B2.out.trans (hb3.mono B2.out.size))
    clear hb3 g0 g1 g2 g3 g4 g5 B2 Y2
    cases px with
    | false =>
      have HE:=Hd (HM.out rfl)
      go_wp2_with fail
      go_ret
      exact ⟨by rw [HE.out];rfl,B3.out⟩
    | true =>
      have HE:=Hd (HN.out rfl)
      go_wp2_with fail
      go_roundg g
      case measure=>omega
      case rel=>exact ⟨q+1,by omega,by go_num,Blk.Aside.intro ⟨HE.out,B3.out⟩⟩
theorem allFld_any (fn:Nat) (l:List FieldT) (A:Option Addr) (c:Nat) (p:FieldT→Bool) (w:World) (B:Nat) (hB:B≤w.heap.size) (hl:l.length≤9223372036854775807) (hR:RowT w (fun b=>b < B) (rowOf encField l) A)
  (he:∀ (args:Array Value) (w:World),(callFunc fn args).run Tryz.prog w=.ok (.enter fn args) w) (hf:∀ x,x ∈ l→∀ (cs:List Value) (W:World),Below w.heap.size w W→TS W (fun b=>b < B) (encField x) cs→Calls Tryz.prog fn #[.agg cs.toArray] W fun e W'=>e=.returned (.bool (p x))∧Below W.heap.size W W') :
  Calls Tryz.prog 215 #[.slice A l.length c,.func (.func fn) #[] #[]] w fun e w'=>e=.returned (.bool (l.all p))∧Below w.heap.size w w':=by
 have HR:=Hd hR
 have HF:=Hd hf
 have HB:=Hd hB
 clear hR hf hB
 go_enter Tryz.func215,Tryz.ntmps215
 go_wp2_with fail
 go_loopg [9] l.length (fun g i wx=>∃ q:Nat,q+g=l.length∧i=.int .i64 q∧Aside ((l.take q).all p=true∧Below w.heap.size w wx))
 case atStart=>exact ⟨0,by omega,rfl,Blk.Aside.intro ⟨rfl,Below.refl _ _⟩⟩
 case round =>
  obtain ⟨q,hq,rfl,HX⟩:=hrel
  have HI:=Hd HX.out.1
  have BX:=Hd HX.out.2
  clear HX
  cases gk with
  | zero =>
    obtain rfl:q=l.length:=by omega
    have HE:=Hd (all_take_end HI.out)
    go_wp2_with fail
    go_ret
    exact ⟨by rw [HE.out];rfl,BX.out⟩
  | succ g =>
    have hqn:q < l.length:=by omega
    have hqn':(q:Int) < (l.length:Int):=by omega
    obtain ⟨x,hx⟩:∃ x,l[q]? = some x:=⟨_,List.getElem?_eq_getElem hqn⟩
    obtain ⟨b,o,cs,rfl,hb,hc,hT⟩:=rowOf_at 6 len_fld HR.out hx
    have HBL:=Hd (Nat.lt_of_lt_of_le hb HB.out)
    have hT':=TS.low (BX.out.mono HB.out) hT
    obtain ⟨Ap,kp,Ad,kd,rfl,_⟩:=fld_cells hT
    have g0:=(BX.out.cell (p:=⟨b,o+q*6,none⟩) HBL.out).trans (hc 0 _ rfl)
    have g1:=(BX.out.cell (p:=⟨b,o+q*6+1,none⟩) HBL.out).trans (hc 1 _ rfl)
    have g2:=(BX.out.cell (p:=⟨b,o+q*6+2,none⟩) HBL.out).trans (hc 2 _ rfl)
    have g3:=(BX.out.cell (p:=⟨b,o+q*6+3,none⟩) HBL.out).trans (hc 3 _ rfl)
    have g4:=(BX.out.cell (p:=⟨b,o+q*6+4,none⟩) HBL.out).trans (hc 4 _ rfl)
    have g5:=(BX.out.cell (p:=⟨b,o+q*6+5,none⟩) HBL.out).trans (hc 5 _ rfl)
    have HN:=Hd (fun h=>all_take_next (p:=p) HI.out hx h)
    have HM:=Hd (fun h=>all_take_no (p:=p) hx h)
    have HT':=Hd hT'
    have CF:=Hd (HF.out x (List.mem_of_getElem? hx))
    generalize p x=px at CF HN HM
    clear hx hb hT hT' hc
    go_upto_region 4 with fail
    clear g0 g1 g2 g3 g4 g5
    have bn:=dbelow_new wr (.cells #[.string x.name,.slice Ap x.params.length kp,.string x.tn,.int .i64 x.tl,.int .i64 x.tm,.slice Ad x.dirs.length kd] 46)
    have B2:=Hd (BX.out.trans (bn.mono BX.out.size))
    have CF:=Hd (CF.out _ _ B2.out (TS.low (bn.mono (Nat.le_trans HB.out BX.out.size)) HT'.out))
    have Y2:=Hd (heap_alloc_new wr (.cells #[.string x.name,.slice Ap x.params.length kp,.string x.tn,.int .i64 x.tl,.int .i64 x.tm,.slice Ad x.dirs.length kd] 46))
    generalize wr.alloc (.cells #[.string x.name,.slice Ap x.params.length kp,.string x.tn,.int .i64 x.tl,.int .i64 x.tm,.slice Ad x.dirs.length kd] 46)=w2 at B2 Y2 CF ⊢
    generalize wr.heap.size=gb at Y2 ⊢
    obtain ⟨⟨g0,g1,g2,g3,g4,g5⟩,_⟩:=six_cells Y2.out
    clear bn
    go_wp2_with fail
    refine CF.out.mono ?_
    rintro e w3 ⟨rfl,hb3⟩
    have B3:=Hd (B2.out.trans (hb3.mono B2.out.size))
    clear hb3 g0 g1 g2 g3 g4 g5 B2 Y2
    cases px with
    | false =>
      have HE:=Hd (HM.out rfl)
      go_wp2_with fail
      go_ret
      exact ⟨by rw [HE.out];rfl,B3.out⟩
    | true =>
      have HE:=Hd (HN.out rfl)
      go_wp2_with fail
      go_roundg g
      case measure=>omega
      case rel=>exact ⟨q+1,by omega,by go_num,Blk.Aside.intro ⟨HE.out,B3.out⟩⟩
theorem allPar_any (fn:Nat) (l:List VarT) (A:Option Addr) (c:Nat) (p:VarT→Bool) (w:World) (B:Nat) (hB:B≤w.heap.size) (hl:l.length≤9223372036854775807) (hR:RowT w (fun b=>b < B) (rowOf encVar l) A)
  (he:∀ (args:Array Value) (w:World),(callFunc fn args).run Tryz.prog w=.ok (.enter fn args) w) (hf:∀ x,x ∈ l→∀ (cs:List Value) (W:World),Below w.heap.size w W→TS W (fun b=>b < B) (encVar x) cs→Calls Tryz.prog fn #[.agg cs.toArray] W fun e W'=>e=.returned (.bool (p x))∧Below W.heap.size W W') :
  Calls Tryz.prog 216 #[.slice A l.length c,.func (.func fn) #[] #[]] w fun e w'=>e=.returned (.bool (l.all p))∧Below w.heap.size w w':=by
 have HR:=Hd hR
 have HF:=Hd hf
 have HB:=Hd hB
 clear hR hf hB
 go_enter Tryz.func216,Tryz.ntmps216
 go_wp2_with fail
 go_loopg [9] l.length (fun g i wx=>∃ q:Nat,q+g=l.length∧i=.int .i64 q∧Aside ((l.take q).all p=true∧Below w.heap.size w wx))
 case atStart=>exact ⟨0,by omega,rfl,Blk.Aside.intro ⟨rfl,Below.refl _ _⟩⟩
 case round =>
  obtain ⟨q,hq,rfl,HX⟩:=hrel
  have HI:=Hd HX.out.1
  have BX:=Hd HX.out.2
  clear HX
  cases gk with
  | zero =>
    obtain rfl:q=l.length:=by omega
    have HE:=Hd (all_take_end HI.out)
    go_wp2_with fail
    go_ret
    exact ⟨by rw [HE.out];rfl,BX.out⟩
  | succ g =>
    have hqn:q < l.length:=by omega
    have hqn':(q:Int) < (l.length:Int):=by omega
    obtain ⟨x,hx⟩:∃ x,l[q]? = some x:=⟨_,List.getElem?_eq_getElem hqn⟩
    obtain ⟨b,o,cs,rfl,hb,hc,hT⟩:=rowOf_at 10 len_par HR.out hx
    have HBL:=Hd (Nat.lt_of_lt_of_le hb HB.out)
    have hT':=TS.low (BX.out.mono HB.out) hT
    obtain ⟨A3,k3,A4,k4,rfl,_⟩:=var_cells hT
    have g0:=(BX.out.cell (p:=⟨b,o+q*10,none⟩) HBL.out).trans (hc 0 _ rfl)
    have g1:=(BX.out.cell (p:=⟨b,o+q*10+1,none⟩) HBL.out).trans (hc 1 _ rfl)
    have g2:=(BX.out.cell (p:=⟨b,o+q*10+2,none⟩) HBL.out).trans (hc 2 _ rfl)
    have g3:=(BX.out.cell (p:=⟨b,o+q*10+3,none⟩) HBL.out).trans (hc 3 _ rfl)
    have g4:=(BX.out.cell (p:=⟨b,o+q*10+4,none⟩) HBL.out).trans (hc 4 _ rfl)
    have g5:=(BX.out.cell (p:=⟨b,o+q*10+5,none⟩) HBL.out).trans (hc 5 _ rfl)
    have g6:=(BX.out.cell (p:=⟨b,o+q*10+6,none⟩) HBL.out).trans (hc 6 _ rfl)
    have g7:=(BX.out.cell (p:=⟨b,o+q*10+7,none⟩) HBL.out).trans (hc 7 _ rfl)
    have g8:=(BX.out.cell (p:=⟨b,o+q*10+8,none⟩) HBL.out).trans (hc 8 _ rfl)
    have g9:=(BX.out.cell (p:=⟨b,o+q*10+9,none⟩) HBL.out).trans (hc 9 _ rfl)
    have HN:=Hd (fun h=>all_take_next (p:=p) HI.out hx h)
    have HM:=Hd (fun h=>all_take_no (p:=p) hx h)
    have HT':=Hd hT'
    have CF:=Hd (HF.out x (List.mem_of_getElem? hx))
    generalize p x=px at CF HN HM
    clear hx hb hT hT' hc
    go_upto_region 4 with fail
    clear g0 g1 g2 g3 g4 g5 g6 g7 g8 g9
    have bn:=dbelow_new wr (.cells #[.string x.name,.string x.tn,.int .i64 x.tl,.int .i64 x.tm,.bool x.has,.int .i64 x.v.kd,.int .i64 x.v.nn,.string x.v.ss,.slice A3 x.v.ls.len k3,.slice A4 x.v.ms.len k4] 56)
    have B2:=Hd (BX.out.trans (bn.mono BX.out.size))
    have CF:=Hd (CF.out _ _ B2.out (TS.low (bn.mono (Nat.le_trans HB.out BX.out.size)) HT'.out))
    have Y2:=Hd (heap_alloc_new wr (.cells #[.string x.name,.string x.tn,.int .i64 x.tl,.int .i64 x.tm,.bool x.has,.int .i64 x.v.kd,.int .i64 x.v.nn,.string x.v.ss,.slice A3 x.v.ls.len k3,.slice A4 x.v.ms.len k4] 56))
    generalize wr.alloc (.cells #[.string x.name,.string x.tn,.int .i64 x.tl,.int .i64 x.tm,.bool x.has,.int .i64 x.v.kd,.int .i64 x.v.nn,.string x.v.ss,.slice A3 x.v.ls.len k3,.slice A4 x.v.ms.len k4] 56)=w2 at B2 Y2 CF ⊢
    generalize wr.heap.size=gb at Y2 ⊢
    obtain ⟨⟨g0,g1,g2,g3,g4,g5,g6,g7,g8,g9⟩,_⟩:=ten_cells Y2.out
    clear bn
    go_wp2_with fail
    refine CF.out.mono ?_
    rintro e w3 ⟨rfl,hb3⟩
    have B3:=Hd (B2.out.trans (hb3.mono B2.out.size))
    clear hb3 g0 g1 g2 g3 g4 g5 g6 g7 g8 g9 B2 Y2
    cases px with
    | false =>
      have HE:=Hd (HM.out rfl)
      go_wp2_with fail
      go_ret
      exact ⟨by rw [HE.out];rfl,B3.out⟩
    | true =>
      have HE:=Hd (HN.out rfl)
      go_wp2_with fail
      go_roundg g
      case measure=>omega
      case rel=>exact ⟨q+1,by omega,by go_num,Blk.Aside.intro ⟨HE.out,B3.out⟩⟩
theorem allDir_any (fn:Nat) (pl:Value) (l:List DirT) (A:Option Addr) (c:Nat) (p:DirT→Bool) (w:World) (B:Nat) (hB:B≤w.heap.size) (hl:l.length≤9223372036854775807) (hR:RowT w (fun b=>b < B) (rowOf encD l) A)
  (he:∀ (args:Array Value) (w:World),(callFunc fn args).run Tryz.prog w=.ok (.enter fn args) w) (hf:∀ x,x ∈ l→∀ (cs:List Value) (W:World),Below w.heap.size w W→TS W (fun b=>b < B) (encD x) cs→Calls Tryz.prog fn #[pl,.agg cs.toArray] W fun e W'=>e=.returned (.bool (p x))∧Below W.heap.size W W') :
  Calls Tryz.prog 217 #[.slice A l.length c,.func (.func fn) #[pl] #[]] w fun e w'=>e=.returned (.bool (l.all p))∧Below w.heap.size w w':=by
 have HR:=Hd hR
 have HF:=Hd hf
 have HB:=Hd hB
 clear hR hf hB
 go_enter Tryz.func217,Tryz.ntmps217
 go_wp2_with fail
 go_loopg [9] l.length (fun g i wx=>∃ q:Nat,q+g=l.length∧i=.int .i64 q∧Aside ((l.take q).all p=true∧Below w.heap.size w wx))
 case atStart=>exact ⟨0,by omega,rfl,Blk.Aside.intro ⟨rfl,Below.refl _ _⟩⟩
 case round =>
  obtain ⟨q,hq,rfl,HX⟩:=hrel
  have HI:=Hd HX.out.1
  have BX:=Hd HX.out.2
  clear HX
  cases gk with
  | zero =>
    obtain rfl:q=l.length:=by omega
    have HE:=Hd (all_take_end HI.out)
    go_wp2_with fail
    go_ret
    exact ⟨by rw [HE.out];rfl,BX.out⟩
  | succ g =>
    have hqn:q < l.length:=by omega
    have hqn':(q:Int) < (l.length:Int):=by omega
    obtain ⟨x,hx⟩:∃ x,l[q]? = some x:=⟨_,List.getElem?_eq_getElem hqn⟩
    obtain ⟨b,o,cs,rfl,hb,hc,hT⟩:=rowOf_at 2 len_dir HR.out hx
    have HBL:=Hd (Nat.lt_of_lt_of_le hb HB.out)
    have hT':=TS.low (BX.out.mono HB.out) hT
    obtain ⟨Ad,kd,rfl,_⟩:=dir_cells hT
    have g0:=(BX.out.cell (p:=⟨b,o+q*2,none⟩) HBL.out).trans (hc 0 _ rfl)
    have g1:=(BX.out.cell (p:=⟨b,o+q*2+1,none⟩) HBL.out).trans (hc 1 _ rfl)
    have HN:=Hd (fun h=>all_take_next (p:=p) HI.out hx h)
    have HM:=Hd (fun h=>all_take_no (p:=p) hx h)
    have HT':=Hd hT'
    have CF:=Hd (HF.out x (List.mem_of_getElem? hx))
    generalize p x=px at CF HN HM
    clear hx hb hT hT' hc
    go_upto_region 4 with fail
    clear g0 g1
    have bn:=dbelow_new wr (.cells #[.string x.1,.slice Ad x.2.len kd] 95)
    have B2:=Hd (BX.out.trans (bn.mono BX.out.size))
    have CF:=Hd (CF.out _ _ B2.out (TS.low (bn.mono (Nat.le_trans HB.out BX.out.size)) HT'.out))
    have Y2:=Hd (heap_alloc_new wr (.cells #[.string x.1,.slice Ad x.2.len kd] 95))
    generalize wr.alloc (.cells #[.string x.1,.slice Ad x.2.len kd] 95)=w2 at B2 Y2 CF ⊢
    generalize wr.heap.size=gb at Y2 ⊢
    obtain ⟨g0,g1⟩:=two_boxS Y2.out
    clear bn
    go_wp2_with fail
    refine CF.out.mono ?_
    rintro e w3 ⟨rfl,hb3⟩
    have B3:=Hd (B2.out.trans (hb3.mono B2.out.size))
    clear hb3 g0 g1 B2 Y2
    cases px with
    | false =>
      have HE:=Hd (HM.out rfl)
      go_wp2_with fail
      go_ret
      exact ⟨by rw [HE.out];rfl,B3.out⟩
    | true =>
      have HE:=Hd (HN.out rfl)
      go_wp2_with fail
      go_roundg g
      case measure=>omega
      case rel=>exact ⟨q+1,by omega,by go_num,Blk.Aside.intro ⟨HE.out,B3.out⟩⟩
theorem allMem_any (fn:Nat) (pl:Value) (l:List (ByteArray × VT)) (A:Option Addr) (c:Nat) (p:(ByteArray × VT)→Bool) (w:World) (B:Nat) (hB:B≤w.heap.size) (hl:l.length≤9223372036854775807) (hR:RowT w (fun b=>b < B) (rowOf encPr l) A)
  (he:∀ (args:Array Value) (w:World),(callFunc fn args).run Tryz.prog w=.ok (.enter fn args) w) (hf:∀ x,x ∈ l→∀ (cs:List Value) (W:World),Below w.heap.size w W→TS W (fun b=>b < B) (encPr x) cs→Calls Tryz.prog fn #[pl,.agg cs.toArray] W fun e W'=>e=.returned (.bool (p x))∧Below W.heap.size W W') :
  Calls Tryz.prog 232 #[.slice A l.length c,.func (.func fn) #[pl] #[]] w fun e w'=>e=.returned (.bool (l.all p))∧Below w.heap.size w w':=by
 have HR:=Hd hR
 have HF:=Hd hf
 have HB:=Hd hB
 clear hR hf hB
 go_enter Tryz.func232,Tryz.ntmps232
 go_wp2_with fail
 go_loopg [9] l.length (fun g i wx=>∃ q:Nat,q+g=l.length∧i=.int .i64 q∧Aside ((l.take q).all p=true∧Below w.heap.size w wx))
 case atStart=>exact ⟨0,by omega,rfl,Blk.Aside.intro ⟨rfl,Below.refl _ _⟩⟩
 case round =>
  obtain ⟨q,hq,rfl,HX⟩:=hrel
  have HI:=Hd HX.out.1
  have BX:=Hd HX.out.2
  clear HX
  cases gk with
  | zero =>
    obtain rfl:q=l.length:=by omega
    have HE:=Hd (all_take_end HI.out)
    go_wp2_with fail
    go_ret
    exact ⟨by rw [HE.out];rfl,BX.out⟩
  | succ g =>
    have hqn:q < l.length:=by omega
    have hqn':(q:Int) < (l.length:Int):=by omega
    obtain ⟨x,hx⟩:∃ x,l[q]? = some x:=⟨_,List.getElem?_eq_getElem hqn⟩
    obtain ⟨b,o,cs,rfl,hb,hc,hT⟩:=rowOf_at 6 pr_len HR.out hx
    have HBL:=Hd (Nat.lt_of_lt_of_le hb HB.out)
    have hT':=TS.low (BX.out.mono HB.out) hT
    obtain ⟨A3,k3,A4,k4,rfl,_⟩:=pr_cells hT
    have g0:=(BX.out.cell (p:=⟨b,o+q*6,none⟩) HBL.out).trans (hc 0 _ rfl)
    have g1:=(BX.out.cell (p:=⟨b,o+q*6+1,none⟩) HBL.out).trans (hc 1 _ rfl)
    have g2:=(BX.out.cell (p:=⟨b,o+q*6+2,none⟩) HBL.out).trans (hc 2 _ rfl)
    have g3:=(BX.out.cell (p:=⟨b,o+q*6+3,none⟩) HBL.out).trans (hc 3 _ rfl)
    have g4:=(BX.out.cell (p:=⟨b,o+q*6+4,none⟩) HBL.out).trans (hc 4 _ rfl)
    have g5:=(BX.out.cell (p:=⟨b,o+q*6+5,none⟩) HBL.out).trans (hc 5 _ rfl)
    have HN:=Hd (fun h=>all_take_next (p:=p) HI.out hx h)
    have HM:=Hd (fun h=>all_take_no (p:=p) hx h)
    have HT':=Hd hT'
    have CF:=Hd (HF.out x (List.mem_of_getElem? hx))
    generalize p x=px at CF HN HM
    clear hx hb hT hT' hc
    go_upto_region 4 with fail
    clear g0 g1 g2 g3 g4 g5
    have bn:=dbelow_new wr (.cells #[.string x.1,.int .i64 x.2.kd,.int .i64 x.2.nn,.string x.2.ss,.slice A3 x.2.ls.len k3,.slice A4 x.2.ms.len k4] 117)
    have B2:=Hd (BX.out.trans (bn.mono BX.out.size))
    have CF:=Hd (CF.out _ _ B2.out (TS.low (bn.mono (Nat.le_trans HB.out BX.out.size)) HT'.out))
    have Y2:=Hd (heap_alloc_new wr (.cells #[.string x.1,.int .i64 x.2.kd,.int .i64 x.2.nn,.string x.2.ss,.slice A3 x.2.ls.len k3,.slice A4 x.2.ms.len k4] 117))
    generalize wr.alloc (.cells #[.string x.1,.int .i64 x.2.kd,.int .i64 x.2.nn,.string x.2.ss,.slice A3 x.2.ls.len k3,.slice A4 x.2.ms.len k4] 117)=w2 at B2 Y2 CF ⊢
    generalize wr.heap.size=gb at Y2 ⊢
    obtain ⟨⟨g0,g1,g2,g3,g4,g5⟩,_⟩:=six_cells Y2.out
    clear bn
    go_wp2_with fail
    refine CF.out.mono ?_
    rintro e w3 ⟨rfl,hb3⟩
    have B3:=Hd (B2.out.trans (hb3.mono B2.out.size))
    clear hb3 g0 g1 g2 g3 g4 g5 B2 Y2
    cases px with
    | false =>
      have HE:=Hd (HM.out rfl)
      go_wp2_with fail
      go_ret
      exact ⟨by rw [HE.out];rfl,B3.out⟩
    | true =>
      have HE:=Hd (HN.out rfl)
      go_wp2_with fail
      go_roundg g
      case measure=>omega
      case rel=>exact ⟨q+1,by omega,by go_num,Blk.Aside.intro ⟨HE.out,B3.out⟩⟩
theorem allStr_any (fn:Nat) (l:List ByteArray) (A:Option Addr) (c:Nat) (p:ByteArray→Bool) (w:World) (B:Nat) (hB:B≤w.heap.size) (hl:l.length≤9223372036854775807) (hR:RowT w (fun b=>b < B) (rowOf encStr l) A)
  (he:∀ (args:Array Value) (w:World),(callFunc fn args).run Tryz.prog w=.ok (.enter fn args) w) (hf:∀ x,x ∈ l→x.size≤9223372036854775807→∀ W:World,Below w.heap.size w W→Calls Tryz.prog fn #[.string x] W fun e W'=>e=.returned (.bool (p x))∧Below W.heap.size W W') :
  Calls Tryz.prog 196 #[.slice A l.length c,.func (.func fn) #[] #[]] w fun e w'=>e=.returned (.bool (l.all p))∧Below w.heap.size w w':=by
 have HR:=Hd hR
 have HF:=Hd hf
 have HB:=Hd hB
 clear hR hf hB
 go_enter Tryz.func196,Tryz.ntmps196
 go_wp2_with fail
 go_loopg [9] l.length (fun g i wx=>∃ q:Nat,q+g=l.length∧i=.int .i64 q∧Aside ((l.take q).all p=true∧Below w.heap.size w wx))
 case atStart=>exact ⟨0,by omega,rfl,Blk.Aside.intro ⟨rfl,Below.refl _ _⟩⟩
 case round =>
  obtain ⟨q,hq,rfl,HX⟩:=hrel
  have HI:=Hd HX.out.1
  have BX:=Hd HX.out.2
  clear HX
  cases gk with
  | zero =>
    obtain rfl:q=l.length:=by omega
    have HE:=Hd (all_take_end HI.out)
    go_wp2_with fail
    go_ret
    exact ⟨by rw [HE.out];rfl,BX.out⟩
  | succ g =>
    have hqn:q < l.length:=by omega
    have hqn':(q:Int) < (l.length:Int):=by omega
    obtain ⟨x,hx⟩:∃ x,l[q]? = some x:=⟨_,List.getElem?_eq_getElem hqn⟩
    obtain ⟨b,o,cs,rfl,hb,hc,hT⟩:=rowOf_at 1 len_str HR.out hx
    have HBL:=Hd (Nat.lt_of_lt_of_le hb HB.out)
    have hT':=TS.low (BX.out.mono HB.out) hT
    obtain ⟨rfl,_⟩:=str_one hT
    have h0:w.cell? ⟨b,o+q,none⟩=some (.string x):=by have h:=hc 0 _ rfl;rw [Nat.mul_one] at h;exact h
    have g0:=(BX.out.cell (p:=⟨b,o+q,none⟩) HBL.out).trans h0
    clear h0
    have HN:=Hd (fun h=>all_take_next (p:=p) HI.out hx h)
    have HM:=Hd (fun h=>all_take_no (p:=p) hx h)
    have hz:=(str_one hT).2
    have CF:=Hd (HF.out x (List.mem_of_getElem? hx) hz _ BX.out)
    generalize p x=px at CF HN HM
    clear hx hb hT hT' hc hz
    go_wp2_with fail
    refine CF.out.mono ?_
    rintro e w3 ⟨rfl,hb3⟩
    have B3:=Hd (BX.out.trans (hb3.mono BX.out.size))
    clear hb3 g0
    cases px with
    | false =>
      have HE:=Hd (HM.out rfl)
      go_wp2_with fail
      go_ret
      exact ⟨by rw [HE.out];rfl,B3.out⟩
    | true =>
      have HE:=Hd (HN.out rfl)
      go_wp2_with fail
      go_roundg g
      case measure=>omega
      case rel=>exact ⟨q+1,by omega,by go_num,Blk.Aside.intro ⟨HE.out,B3.out⟩⟩
end Go.Proofs.YtbgenomboagmaaaGreatDoor
