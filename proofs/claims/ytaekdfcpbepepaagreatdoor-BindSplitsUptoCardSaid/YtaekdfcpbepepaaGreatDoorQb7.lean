/- literal's param: the first parameter of a name. (gen_ten.py wrote it.) -/
import Derived.Test.YtaekdfcpbepepaaGreatDoorQb6
set_option maxRecDepth 100000
set_option maxHeartbeats 8000000
namespace Go.Proofs.YtaekdfcpbepepaaGreatDoor
open Go.RowKit
theorem ten_cells {w:World} {g:Nat} {c0 c1 c2 c3 c4 c5 c6 c7 c8 c9:Value} {t:TypeId} (h:w.heap[g]? = some (.cells #[c0,c1,c2,c3,c4,c5,c6,c7,c8,c9] t (0,0))):(w.cell? ⟨g,0,none⟩=some c0∧w.cell? ⟨g,1,none⟩=some c1∧w.cell? ⟨g,2,none⟩=some c2∧w.cell? ⟨g,3,none⟩=some c3∧w.cell? ⟨g,4,none⟩=some c4∧w.cell? ⟨g,5,none⟩=some c5∧w.cell? ⟨g,6,none⟩=some c6∧w.cell? ⟨g,7,none⟩=some c7∧w.cell? ⟨g,8,none⟩=some c8∧w.cell? ⟨g,9,none⟩=some c9)∧w.frozen? ⟨g,0,none⟩=false∧w.frozen? ⟨g,1,none⟩=false∧w.frozen? ⟨g,2,none⟩=false∧w.frozen? ⟨g,3,none⟩=false∧w.frozen? ⟨g,4,none⟩=false∧w.frozen? ⟨g,5,none⟩=false∧w.frozen? ⟨g,6,none⟩=false∧w.frozen? ⟨g,7,none⟩=false∧w.frozen? ⟨g,8,none⟩=false∧w.frozen? ⟨g,9,none⟩=false:=by
 simp [World.cell?,World.frozen?,h]
theorem ten_set {w:World} {b:Nat} {t:TypeId} {x0 x1 x2 x3 x4 x5 x6 x7 x8 x9 c0 c1 c2 c3 c4 c5 c6 c7 c8 c9:Value} (h:w.heap[b]? = some (.cells #[x0,x1,x2,x3,x4,x5,x6,x7,x8,x9] t (0,0))) :
  ((((((((((w.setCell ⟨b,0,none⟩ c0).setCell ⟨b,1,none⟩ c1).setCell ⟨b,2,none⟩ c2).setCell ⟨b,3,none⟩ c3).setCell ⟨b,4,none⟩ c4).setCell ⟨b,5,none⟩ c5).setCell ⟨b,6,none⟩ c6).setCell ⟨b,7,none⟩ c7).setCell ⟨b,8,none⟩ c8).setCell ⟨b,9,none⟩ c9).heap[b]? = some (.cells #[c0,c1,c2,c3,c4,c5,c6,c7,c8,c9] t (0,0)):=by
 simp [World.setCell,Array.getElem?_modify,h]
theorem ten_low {w0 w:World} {B b:Nat} {c0 c1 c2 c3 c4 c5 c6 c7 c8 c9:Value} (h:Below B w0 w) (hb:B≤b):Below B w0 ((((((((((w.setCell ⟨b,0,none⟩ c0).setCell ⟨b,1,none⟩ c1).setCell ⟨b,2,none⟩ c2).setCell ⟨b,3,none⟩ c3).setCell ⟨b,4,none⟩ c4).setCell ⟨b,5,none⟩ c5).setCell ⟨b,6,none⟩ c6).setCell ⟨b,7,none⟩ c7).setCell ⟨b,8,none⟩ c8).setCell ⟨b,9,none⟩ c9):=
 (((((((((h.setCell (p:=⟨b,0,none⟩) hb _).setCell (p:=⟨b,1,none⟩) hb _).setCell (p:=⟨b,2,none⟩) hb _).setCell (p:=⟨b,3,none⟩) hb _).setCell (p:=⟨b,4,none⟩) hb _).setCell (p:=⟨b,5,none⟩) hb _).setCell (p:=⟨b,6,none⟩) hb _).setCell (p:=⟨b,7,none⟩) hb _).setCell (p:=⟨b,8,none⟩) hb _).setCell (p:=⟨b,9,none⟩) hb _
theorem nine_cells {w:World} {g:Nat} {c0 c1 c2 c3 c4 c5 c6 c7 c8:Value} {t:TypeId} (h:w.heap[g]? = some (.cells #[c0,c1,c2,c3,c4,c5,c6,c7,c8] t (0,0))):(w.cell? ⟨g,0,none⟩=some c0∧w.cell? ⟨g,1,none⟩=some c1∧w.cell? ⟨g,2,none⟩=some c2∧w.cell? ⟨g,3,none⟩=some c3∧w.cell? ⟨g,4,none⟩=some c4∧w.cell? ⟨g,5,none⟩=some c5∧w.cell? ⟨g,6,none⟩=some c6∧w.cell? ⟨g,7,none⟩=some c7∧w.cell? ⟨g,8,none⟩=some c8)∧w.frozen? ⟨g,0,none⟩=false∧w.frozen? ⟨g,1,none⟩=false∧w.frozen? ⟨g,2,none⟩=false∧w.frozen? ⟨g,3,none⟩=false∧w.frozen? ⟨g,4,none⟩=false∧w.frozen? ⟨g,5,none⟩=false∧w.frozen? ⟨g,6,none⟩=false∧w.frozen? ⟨g,7,none⟩=false∧w.frozen? ⟨g,8,none⟩=false:=by
 simp [World.cell?,World.frozen?,h]
theorem nine_news (w:World) (c0 c1 c2 c3 c4 c5 c6 c7 c8:Value) (t:TypeId) {n:Nat} (hn:n=w.heap.size):∀ (j:Nat) u,[c0,c1,c2,c3,c4,c5,c6,c7,c8][j]? = some u→(w.alloc (.cells #[c0,c1,c2,c3,c4,c5,c6,c7,c8] t)).cell? ((⟨n,0,none⟩:Addr).add j)=some u:=by
 subst hn
 intro j u hu
 rw [add_at,Nat.zero_add]
 obtain ⟨⟨h0,h1,h2,h3,h4,h5,h6,h7,h8⟩,_⟩:=nine_cells (heap_alloc_new w (.cells #[c0,c1,c2,c3,c4,c5,c6,c7,c8] t))
 match j,hu with
 | 0,hu=>cases hu;exact h0
 | 1,hu=>cases hu;exact h1
 | 2,hu=>cases hu;exact h2
 | 3,hu=>cases hu;exact h3
 | 4,hu=>cases hu;exact h4
 | 5,hu=>cases hu;exact h5
 | 6,hu=>cases hu;exact h6
 | 7,hu=>cases hu;exact h7
 | 8,hu=>cases hu;exact h8
theorem encv_cells {w:World} {P:Nat→Prop} {v:VT} {cs:List Value} (h:TS w P (encV v) cs):∃ A3 k3 A4 k4,cs=[.int .i64 v.kd,.int .i64 v.nn,.string v.ss,.slice A3 v.ls.len k3,.slice A4 v.ms.len k4]∧v.ss.size≤9223372036854775807∧(v.ls.len≤9223372036854775807∧RowT w P (encL v.ls) A3)∧v.ms.len≤9223372036854775807∧RowT w P (encM v.ms) A4:=by
 obtain ⟨k,n,s,l,m⟩:=v
 rw [encV] at h
 simp only [TS,TP] at h
 obtain ⟨_,_,rfl,⟨rfl,_⟩,_,_,rfl,⟨rfl,_⟩,_,_,rfl,⟨rfl,hs⟩,_,_,rfl,⟨A3,k3,rfl,g3,h3⟩,_,_,rfl,⟨A4,k4,rfl,g4,h4⟩,rfl⟩:=h
 rw [encL_len] at g3 ⊢
 rw [encM_len] at g4 ⊢
 exact ⟨A3,k3,A4,k4,rfl,hs,⟨g3,h3⟩,g4,h4⟩
theorem var_cells {w:World} {P:Nat→Prop} {x:VarT} {cs:List Value} (h:TS w P (encVar x) cs):∃ A3 k3 A4 k4,cs=[(.string x.name),(.string x.tn),(.int .i64 x.tl),(.int .i64 x.tm),(.bool x.has),(.int .i64 x.v.kd),(.int .i64 x.v.nn),(.string x.v.ss),(.slice A3 x.v.ls.len k3),(.slice A4 x.v.ms.len k4)]∧x.name.size≤9223372036854775807∧x.tn.size≤9223372036854775807:=by
 unfold encVar at h
 simp only [TS,TP] at h
 obtain ⟨_,_,rfl,⟨rfl,h0⟩,_,_,rfl,⟨rfl,h1⟩,_,_,rfl,⟨rfl,_⟩,_,_,rfl,⟨rfl,_⟩,_,_,rfl,⟨rfl,_⟩,h5⟩:=h
 obtain ⟨A3,k3,A4,k4,rfl,_⟩:=encv_cells h5
 exact ⟨A3,k3,A4,k4,rfl,h0,h1⟩
theorem var_at {w:World} {P:Nat→Prop} {l:List VarT} {A:Option Addr} {q:Nat} {x:VarT} (h:RowT w P (rowOf encVar l) A) (hx:l[q]? = some x) :
  ∃ b p A3 k3 A4 k4,A=some ⟨b,p,none⟩∧P b∧(w.cell? ⟨b,p+q*10,none⟩=some (.string x.name)∧w.cell? ⟨b,p+q*10+1,none⟩=some (.string x.tn)∧w.cell? ⟨b,p+q*10+2,none⟩=some (.int .i64 x.tl)∧w.cell? ⟨b,p+q*10+3,none⟩=some (.int .i64 x.tm)∧w.cell? ⟨b,p+q*10+4,none⟩=some (.bool x.has)∧w.cell? ⟨b,p+q*10+5,none⟩=some (.int .i64 x.v.kd)∧w.cell? ⟨b,p+q*10+6,none⟩=some (.int .i64 x.v.nn)∧w.cell? ⟨b,p+q*10+7,none⟩=some (.string x.v.ss)∧w.cell? ⟨b,p+q*10+8,none⟩=some (.slice A3 x.v.ls.len k3)∧w.cell? ⟨b,p+q*10+9,none⟩=some (.slice A4 x.v.ms.len k4))∧x.name.size≤9223372036854775807∧x.tn.size≤9223372036854775807:=by
 obtain ⟨b,p,cs,e,hb,hc,h1⟩:=rowOf_at 10 len_par h hx
 obtain ⟨A3,k3,A4,k4,rfl,h2,h3⟩:=var_cells h1
 exact ⟨b,p,A3,k3,A4,k4,e,hb,⟨hc 0 _ rfl,hc 1 _ rfl,hc 2 _ rfl,hc 3 _ rfl,hc 4 _ rfl,hc 5 _ rfl,hc 6 _ rfl,hc 7 _ rfl,hc 8 _ rfl,hc 9 _ rfl⟩,h2,h3⟩
theorem paramD_at {l:List VarT} {q:Nat} {d:VarT} {n:ByteArray} (h:l[q]? = some d):paramD (l.drop q) n=if d.name.toList == n.toList then (d,true) else paramD (l.drop (q+1)) n:=by
 have hq:q < l.length:=(List.getElem?_eq_some_iff.1 h).1
 have e:l[q]=d:=(List.getElem?_eq_some_iff.1 h).2
 rw [List.drop_eq_getElem_cons hq,e,paramD]
theorem ret_p2 {R:Ending→World→Prop} {fn:Func} {a:Act} {W:World} {c0 c1 c2 c3 c4 c5 c6 c7 c8 c9:Value} {p u b:Nat} (hf:fn.results=#[.cell p 60,.tmp u]) (h2:a.tmps.getD p undef=.pointer (some ⟨b,0,none⟩)) (hd:a.defers=[])
  (hc:W.heap[b]? = some (.cells #[c0,c1,c2,c3,c4,c5,c6,c7,c8,c9] 60 (0,0))) (hR:R (.returned (.tuple #[.agg #[c0,c1,c2,c3,c4,c5,c6,c7,c8,c9],a.tmps.getD u undef])) W):bodyPost Tryz.prog fn R .ret a W:=by
 have hl:(loadVar 60 ⟨b,0,none⟩).run Tryz.prog W=.ok (.agg #[c0,c1,c2,c3,c4,c5,c6,c7,c8,c9]) W:=
  run_loadVar_row W b 60 60 #[c0,c1,c2,c3,c4,c5,c6,c7,c8,c9] (0,0) _ hc Tryz.underlying60 rfl (by kernel_rfl)
 refine bodyPost_ret ?_ hd hR
 have h2':a.tmps[p]?.getD undef=.pointer (some ⟨b,0,none⟩):=by rw [← h2];simp
 simp [results,hf,h2',asAddr,hl]
def ParO (x:VarT × Bool) (w:World) (e:Ending) (w':World):Prop:=∃ A3 k3 A4 k4,e=.returned (.tuple #[.agg #[.string x.1.name,.string x.1.tn,.int .i64 x.1.tl,.int .i64 x.1.tm,.bool x.1.has,.int .i64 x.1.v.kd,.int .i64 x.1.v.nn,.string x.1.v.ss,.slice A3 x.1.v.ls.len k3,.slice A4 x.1.v.ms.len k4],.bool x.2])∧Below w.heap.size w w'
structure PRs (w W:World):Prop where
 low:Below w.heap.size w W
 res:W.heap[w.heap.size]? = some (.cells #[.string ⟨#[]⟩,.string ⟨#[]⟩,.int .i64 0,.int .i64 0,.bool false,.int .i64 0,.int .i64 0,.string ⟨#[]⟩,.slice none 0 0,.slice none 0 0] 60 (0,0))
theorem PRs.next {w W W':World} (h:PRs w W) (hb:Below W.heap.size W W'):PRs w W':=
 ⟨h.low.trans (hb.mono h.low.size),(hb.block _ (Array.getElem?_eq_some_iff.1 h.res).1).trans h.res⟩
theorem param_any (l:List VarT) (A:Option Addr) (c:Nat) (n:ByteArray) (w:World) (P:Nat→Prop) (hP:∀ b,P b→b < w.heap.size) (hl:l.length≤9223372036854775807) (_hn:n.size≤9223372036854775807) (hR:RowT w P (rowOf encVar l) A) :
  Calls Tryz.prog 230 #[.slice A l.length c,.string n] w (ParO (paramD l n) w):=by
 have HR:=Hd hR
 have HP:=Hd hP
 have X0:=Hd (show PRs w (w.alloc (.cells #[.string ⟨#[]⟩,.string ⟨#[]⟩,.int .i64 0,.int .i64 0,.bool false,.int .i64 0,.int .i64 0,.string ⟨#[]⟩,.slice none 0 0,.slice none 0 0] 60)) from ⟨dbelow_new _ _,heap_alloc_new _ _⟩)
 clear hR hP
 go_enter Tryz.func230,Tryz.ntmps230
 go_wp2_with fail
 go_loopg [10] l.length (fun g i wx=>∃ q:Nat,q+g=l.length∧i=.int .i64 q∧paramD (l.drop q) n=paramD l n∧PRs w wx)
 case atStart=>exact ⟨0,by omega,rfl,rfl,X0.out⟩
 case round =>
  obtain ⟨q,hq,rfl,he,hX⟩:=hrel
  have HE:=Hd he
  have HX:=Hd hX
  clear he hX X0
  obtain ⟨_,u0,u1,u2,u3,u4,u5,u6,u7,u8,u9⟩:=ten_cells HX.out.res
  cases gk with
  | zero =>
    obtain rfl:q=l.length:=by omega
    go_wp2_with fail
    refine ret_p2 rfl rfl rfl (ten_set HX.out.res) ?_
    have e:=HE.out
    rw [List.drop_length,paramD] at e
    rw [← e]
    exact ⟨_,_,_,_,rfl,ten_low (b:=w.heap.size) HX.out.low (Nat.le_refl _)⟩
  | succ g =>
    have hqn:q < l.length:=by omega
    have hqn':(q:Int) < (l.length:Int):=by omega
    obtain ⟨x,hx⟩:∃ x,l[q]? = some x:=⟨_,List.getElem?_eq_getElem hqn⟩
    obtain ⟨b,p,A3,k3,A4,k4,rfl,hb,⟨g0,g1,g2,g3,g4,g5,g6,g7,g8,g9⟩,hs1,hs2⟩:=var_at (RowT.keep (P':=P) (fun b hb=>⟨hb,HX.out.low.block b (HP.out b hb)⟩) _ _ HR.out) hx
    have hbl:b < wr.heap.size:=Nat.lt_of_lt_of_le (HP.out b hb) HX.out.low.size
    have hst:=HE.out
    rw [paramD_at hx] at hst
    obtain ⟨tst,ht⟩:∃ t,(x.name.toList == n.toList)=t:=⟨_,rfl⟩
    rw [ht] at hst
    have HST:=Hd hst
    clear hx hst hb
    go_upto_region 4 with fail
    clear g0 g1 g2 g3 g4 g5 g6 g7 g8 g9 u0 u1 u2 u3 u4 u5 u6 u7 u8 u9
    have B2:=Hd (dbelow_new wr (.cells #[.string x.name,.string x.tn,.int .i64 x.tl,.int .i64 x.tm,.bool x.has,.int .i64 x.v.kd,.int .i64 x.v.nn,.string x.v.ss,.slice A3 x.v.ls.len k3,.slice A4 x.v.ms.len k4] 60))
    have Y2:=heap_alloc_new wr (.cells #[.string x.name,.string x.tn,.int .i64 x.tl,.int .i64 x.tm,.bool x.has,.int .i64 x.v.kd,.int .i64 x.v.nn,.string x.v.ss,.slice A3 x.v.ls.len k3,.slice A4 x.v.ms.len k4] 60)
    generalize wr.alloc (.cells #[.string x.name,.string x.tn,.int .i64 x.tl,.int .i64 x.tm,.bool x.has,.int .i64 x.v.kd,.int .i64 x.v.nn,.string x.v.ss,.slice A3 x.v.ls.len k3,.slice A4 x.v.ms.len k4] 60)=w2 at B2 Y2 ⊢
    have X2:=Hd (HX.out.next B2.out)
    generalize wr.heap.size=g2 at Y2 ⊢
    obtain ⟨⟨y0,y1,y2,y3,y4,y5,y6,y7,y8,y9⟩,_⟩:=ten_cells Y2
    obtain ⟨_,u0,u1,u2,u3,u4,u5,u6,u7,u8,u9⟩:=ten_cells X2.out.res
    clear Y2
    cases tst with
    | true =>
      go_wp2_with fail
      refine ret_p2 rfl rfl rfl (ten_set X2.out.res) ?_
      have e:=HST.out
      rw [if_pos (by simp)] at e
      rw [← e]
      exact ⟨_,_,_,_,rfl,ten_low (b:=w.heap.size) X2.out.low (Nat.le_refl _)⟩
    | false =>
      go_wp2_with fail
      go_roundg g
      case measure=>omega
      case rel=>exact ⟨q+1,by omega,by go_num,by have e:=HST.out;rw [if_neg (by simp)] at e;exact e,X2.out⟩
theorem val_at {w:World} {P:Nat→Prop} {l:List VT} {A:Option Addr} {q:Nat} {x:VT} (h:RowT w P (rowOf encV l) A) (hx:l[q]? = some x) :
  ∃ b p A3 k3 A4 k4,A=some ⟨b,p,none⟩∧P b∧(w.cell? ⟨b,p+q*5,none⟩=some (.int .i64 x.kd)∧w.cell? ⟨b,p+q*5+1,none⟩=some (.int .i64 x.nn)∧w.cell? ⟨b,p+q*5+2,none⟩=some (.string x.ss)∧w.cell? ⟨b,p+q*5+3,none⟩=some (.slice A3 x.ls.len k3)∧w.cell? ⟨b,p+q*5+4,none⟩=some (.slice A4 x.ms.len k4)) ∧
    TS w P (encV x) [.int .i64 x.kd,.int .i64 x.nn,.string x.ss,.slice A3 x.ls.len k3,.slice A4 x.ms.len k4]:=by
 obtain ⟨b,p,cs,e,hb,hc,h1⟩:=rowOf_at 5 encV_len h hx
 obtain ⟨A3,k3,A4,k4,rfl,_⟩:=encv_cells h1
 exact ⟨b,p,A3,k3,A4,k4,e,hb,⟨hc 0 _ rfl,hc 1 _ rfl,hc 2 _ rfl,hc 3 _ rfl,hc 4 _ rfl⟩,h1⟩
theorem pl_ts {w:World} {P:Nat→Prop} {p:PlT} {ys:List Value} (hn:p.tn.size≤9223372036854775807) (h:TS w P (encV p.v) ys):TS w P (encPl p) (.string p.tn :: .int .i64 p.tl :: .int .i64 p.tm :: .bool p.has :: ys):=by
 unfold encPl
 rw [TS];refine ⟨_,_,rfl,by unfold TP;exact ⟨rfl,hn⟩,?_⟩
 rw [TS];refine ⟨_,_,rfl,by unfold TP;exact ⟨rfl,trivial⟩,?_⟩
 rw [TS];refine ⟨_,_,rfl,by unfold TP;exact ⟨rfl,trivial⟩,?_⟩
 rw [TS];exact ⟨_,_,rfl,by unfold TP;exact ⟨rfl,trivial⟩,h⟩
def PlsAt (w:World) (B base:Nat) (l:List PlT) (A:Option Addr):Prop:=∀ (j:Nat) x,l[j]? = some x→∃ g o cs,A=some ⟨g,o,none⟩∧base≤g∧g < w.heap.size∧TS w (fun b=>b < B) (encPl x) cs∧∀ (i:Nat) u,cs[i]? = some u→w.cell? ⟨g,o+j*9+i,none⟩=some u
theorem PlsAt.keep {w w':World} {B base:Nat} {l:List PlT} {A:Option Addr} (h:PlsAt w B base l A) (hs:w.heap.size≤w'.heap.size) (hb:∀ b,(b < B∨base≤b)→b < w.heap.size→w'.heap[b]? = w.heap[b]?) (hB:B≤w.heap.size):PlsAt w' B base l A:=fun j x hx=>by
 obtain ⟨g,o,cs,h1,h2,h3,h4,h5⟩:=h j x hx
 exact ⟨g,o,cs,h1,h2,Nat.lt_of_lt_of_le h3 hs,TS.keep (fun b hlt=>⟨hlt,hb b (.inl hlt) (Nat.lt_of_lt_of_le hlt hB)⟩) _ _ h4,fun i u hu=>(World.cell?_of_block (a:=⟨g,_,none⟩) (hb g (.inr h2) h3)).trans (h5 i u hu)⟩
theorem PlsAt.base {w:World} {B base base':Nat} {l:List PlT} {A:Option Addr} (h:PlsAt w B base l A) (hb:base'≤base):PlsAt w B base' l A:=fun j x hx=>by
 obtain ⟨g,o,cs,h1,h2,h3⟩:=h j x hx
 exact ⟨g,o,cs,h1,Nat.le_trans hb h2,h3⟩
def PlsO (l:List PlT) (B:Nat) (w:World) (e:Ending) (w':World):Prop:=∃ A c,e=.returned (.slice A l.length c)∧l.length≤c∧PlsAt w' B w.heap.size l A∧Below w.heap.size w w'
def Fill (B g q:Nat) (l:List PlT) (w:World):Prop:=(∃ cur,w.heap[g]? = some (.cells cur 163 (0,0))∧l.length*9≤cur.size)∧∀ (j:Nat) x,j < q→l[j]? = some x→∃ cs,TS w (fun b=>b < B) (encPl x) cs∧∀ (i:Nat) u,cs[i]? = some u→w.cell? ⟨g,j*9+i,none⟩=some u
theorem Fill.lt {B g q:Nat} {l:List PlT} {w:World} (h:Fill B g q l w):g < w.heap.size:=by
 obtain ⟨⟨cur,h1,_⟩,_⟩:=h
 exact (Array.getElem?_eq_some_iff.1 h1).1
theorem Fill.low {B g q:Nat} {l:List PlT} {w w':World} (h:Fill B g q l w) (hB:B≤w.heap.size) (hb:Below w.heap.size w w'):Fill B g q l w':=by
 have hg:=h.lt
 obtain ⟨⟨cur,h1,h2⟩,h3⟩:=h
 refine ⟨⟨cur,(hb.block _ hg).trans h1,h2⟩,fun j x hj hx=>?_⟩
 obtain ⟨cs,h4,h5⟩:=h3 j x hj hx
 exact ⟨cs,TS.low (hb.mono hB) h4,fun i u hu=>(hb.cell (p:=⟨g,j*9+i,none⟩) hg).trans (h5 i u hu)⟩
theorem Fill.set {B g q:Nat} {l:List PlT} {w:World} (h:Fill B g q l w) (hBg:B≤g) {x:PlT} (hx:l[q]? = some x) {cs:List Value} (hc:TS w (fun b=>b < B) (encPl x) cs):Fill B g (q+1) l (w.setCells g (q*9) cs):=by
 obtain ⟨⟨cur,h1,h2⟩,h3⟩:=h
 have hlen:cs.length=9:=by rw [hc.len,encPl_len]
 have hq:q < l.length:=(List.getElem?_eq_some_iff.1 hx).1
 have hkp:∀ {s:TrS} {ys:List Value},TS w (fun b=>b < B) s ys→TS (w.setCells g (q*9) cs) (fun b=>b < B) s ys:=fun hs=>TS.keep (fun b hb=>⟨hb,setCells_other g cs _ w b (by omega)⟩) _ _ hs
 obtain ⟨cur',h4,h5⟩:=setCells_shape g cs (q*9) w cur h1
 refine ⟨⟨cur',h4,by omega⟩,fun j x' hj hx'=>?_⟩
 by_cases e:j=q
 · subst e
   obtain rfl:x=x':=by rw [hx] at hx';exact Option.some.inj hx'
   refine ⟨cs,hkp hc,fun i u hu=>?_⟩
   have hi:=(List.getElem?_eq_some_iff.1 hu).1
   rw [World.cell?_setCells_in g cs (j*9) w (fun i hi=>by rw [cells_get h1];simp;omega) i hi]
   exact (List.getElem?_eq_getElem hi).symm.trans hu
 · obtain ⟨ys,h6,h7⟩:=h3 j x' (by omega) hx'
   refine ⟨ys,hkp h6,fun i u hu=>?_⟩
   have hi:=(List.getElem?_eq_some_iff.1 hu).1
   rw [h6.len,encPl_len] at hi
   rw [World.cell?_setCells_out g cs (q*9) w _ (fun _ _=>?_)]
   · exact h7 i u hu
   · show j*9+i < q*9∨q*9+cs.length≤j*9+i
     omega
theorem Fill.done {B g base:Nat} {l:List PlT} {w:World} (h:Fill B g l.length l w) (hb:base≤g):PlsAt w B base l (some ⟨g,0,none⟩):=fun j x hx=>by
 obtain ⟨cs,h4,h5⟩:=h.2 j x (List.getElem?_eq_some_iff.1 hx).1 hx
 exact ⟨g,0,cs,rfl,hb,h.lt,h4,fun i u hu=>by rw [Nat.zero_add];exact h5 i u hu⟩
theorem Fill.start {B base n:Nat} {l:List PlT} {w:World} {g:Nat} {xs:List Value} (h:w.ownsRow base 163 9 (.slice (some ⟨g,0,none⟩) n n) n xs) (hn:l.length=n):Fill B g 0 l w:=by
 rcases h.2 with ⟨e,_⟩|⟨g',cap,cur,e,hb,hg,hnc,hm,hcs,htk⟩
 · cases e
 · simp only [Value.slice.injEq,Option.some.injEq,Addr.mk.injEq,and_true,true_and] at e
   obtain ⟨rfl,rfl⟩:=e
   exact ⟨⟨cur,hg,by rw [hcs,hn];exact Nat.le_refl _⟩,fun j x hj=>absurd hj (Nat.not_lt_zero _)⟩
theorem nine_low' {w0 w:World} {B b o:Nat} {c0 c1 c2 c3 c4 c5 c6 c7 c8:Value} (h:Below B w0 w) (hb:B≤b):Below B w0 (((((((((w.setCell ⟨b,o,none⟩ c0).setCell ⟨b,o+1,none⟩ c1).setCell ⟨b,o+2,none⟩ c2).setCell ⟨b,o+3,none⟩ c3).setCell ⟨b,o+4,none⟩ c4).setCell ⟨b,o+5,none⟩ c5).setCell ⟨b,o+6,none⟩ c6).setCell ⟨b,o+7,none⟩ c7).setCell ⟨b,o+8,none⟩ c8):=
 ((((((((h.setCell (p:=⟨b,o,none⟩) hb _).setCell (p:=⟨b,o+1,none⟩) hb _).setCell (p:=⟨b,o+2,none⟩) hb _).setCell (p:=⟨b,o+3,none⟩) hb _).setCell (p:=⟨b,o+4,none⟩) hb _).setCell (p:=⟨b,o+5,none⟩) hb _).setCell (p:=⟨b,o+6,none⟩) hb _).setCell (p:=⟨b,o+7,none⟩) hb _).setCell (p:=⟨b,o+8,none⟩) hb _
theorem nine_heap' {w:World} {b o k:Nat} {c0 c1 c2 c3 c4 c5 c6 c7 c8:Value} (h:k ≠ b):(((((((((w.setCell ⟨b,o,none⟩ c0).setCell ⟨b,o+1,none⟩ c1).setCell ⟨b,o+2,none⟩ c2).setCell ⟨b,o+3,none⟩ c3).setCell ⟨b,o+4,none⟩ c4).setCell ⟨b,o+5,none⟩ c5).setCell ⟨b,o+6,none⟩ c6).setCell ⟨b,o+7,none⟩ c7).setCell ⟨b,o+8,none⟩ c8).heap[k]? = w.heap[k]?:=
 (Below.heap_setCell _ _ _ _ h).trans ((Below.heap_setCell _ _ _ _ h).trans ((Below.heap_setCell _ _ _ _ h).trans ((Below.heap_setCell _ _ _ _ h).trans ((Below.heap_setCell _ _ _ _ h).trans ((Below.heap_setCell _ _ _ _ h).trans ((Below.heap_setCell _ _ _ _ h).trans ((Below.heap_setCell _ _ _ _ h).trans ((Below.heap_setCell _ _ _ _ h)))))))))
theorem five_at {w:World} {g:Nat} {c0 c1 c2 c3 c4:Value} {t:TypeId} (h:w.heap[g]? = some (.cells #[c0,c1,c2,c3,c4] t (0,0))):w.cell? ⟨g,0,none⟩=some c0∧w.cell? ⟨g,1,none⟩=some c1∧w.cell? ⟨g,2,none⟩=some c2∧w.cell? ⟨g,3,none⟩=some c3∧w.cell? ⟨g,4,none⟩=some c4:=by
 simp [World.cell?,h]
theorem fill_cells {w:World} {g O:Nat} {cur:Array Value} {t:TypeId} (h:w.heap[g]? = some (.cells cur t (0,0))) (hO:O+9≤cur.size):∃ e0 e1 e2 e3 e4 e5 e6 e7 e8,(w.cell? ⟨g,O,none⟩=some e0∧w.cell? ⟨g,O+1,none⟩=some e1∧w.cell? ⟨g,O+2,none⟩=some e2∧w.cell? ⟨g,O+3,none⟩=some e3∧w.cell? ⟨g,O+4,none⟩=some e4∧w.cell? ⟨g,O+5,none⟩=some e5∧w.cell? ⟨g,O+6,none⟩=some e6∧w.cell? ⟨g,O+7,none⟩=some e7∧w.cell? ⟨g,O+8,none⟩=some e8)∧w.frozen? ⟨g,O,none⟩=false∧w.frozen? ⟨g,O+1,none⟩=false∧w.frozen? ⟨g,O+2,none⟩=false∧w.frozen? ⟨g,O+3,none⟩=false∧w.frozen? ⟨g,O+4,none⟩=false∧w.frozen? ⟨g,O+5,none⟩=false∧w.frozen? ⟨g,O+6,none⟩=false∧w.frozen? ⟨g,O+7,none⟩=false∧w.frozen? ⟨g,O+8,none⟩=false:=by
 have hc:∀ i,i < 9→w.cell? ⟨g,O+i,none⟩=some (cur[O+i]?.getD undef):=fun i hi=>by
  rw [cells_get h,Array.getElem?_eq_getElem (show O+i < cur.size by omega)];rfl
 exact ⟨_,_,_,_,_,_,_,_,_,⟨hc 0 (by decide),hc 1 (by decide),hc 2 (by decide),hc 3 (by decide),hc 4 (by decide),hc 5 (by decide),hc 6 (by decide),hc 7 (by decide),hc 8 (by decide)⟩,cells_frozen h _,cells_frozen h _,cells_frozen h _,cells_frozen h _,cells_frozen h _,cells_frozen h _,cells_frozen h _,cells_frozen h _,cells_frozen h _⟩
theorem cinfo_pl:∃ i z,Tryz.prog.info? 163=some i∧i.zero=some z∧i.size=9∧i.bytes=120∧z.cells.size=9:=info_of (by kernel_rfl)
theorem elements_any (vs:List VT) (A:Option Addr) (c:Nat) (n:ByteArray) (l m:Int) (w:World) (B:Nat) (hB:B≤w.heap.size) (hz:vs.length*80≤140737488355328) (hn:n.size≤9223372036854775807) (hR:RowT w (fun b=>b < B) (rowOf encV vs) A) :
  Calls Tryz.prog 204 #[.agg #[.string n,.int .i64 l,.int .i64 m],.slice A vs.length c] w (PlsO (elemsL n l m vs) B w):=by
 obtain ⟨i0,z,hi,hz0,hz1,hz2,hz3⟩:=cinfo_pl
 have HR:=Hd hR
 have HB:=Hd hB
 have HN:=Hd hn
 have B0:=Hd (dbelow_new w (.cells #[.string n,.int .i64 l,.int .i64 m] 43))
 have X0:=Hd (heap_alloc_new w (.cells #[.string n,.int .i64 l,.int .i64 m] 43))
 have hlen:(elemsL n l m vs).length=vs.length:=by unfold elemsL;rw [List.length_map]
 have HLE:=Hd hlen
 clear hR hB hn hlen
 go_enter Tryz.func204,Tryz.ntmps204
 go_upto_region 1 with fail
 generalize w.alloc (.cells #[.string n,.int .i64 l,.int .i64 m] 43)=w1 at B0 X0 ⊢
 go_wp2_with (at_make;refine wpList_make_full _ rfl _ _ 172 rfl w1.heap.size 163 i0 z 9 Tryz.underlying172 hi hz0 hz1 .i64 .i64 _ _ vs.length rfl rfl rfl rfl (by rw [hz2];omega) (by unfold maxLen;omega) (Nat.le_refl _) ?_;intro w2 hown2 hg2;have HO2:=Hd hown2;have HG2:=Hd hg2;clear hown2 hg2)
 have B2:=Hd (below_grown (B:=w1.heap.size) (Below.refl _ _) HG2.out (Nat.le_refl _) (fun k hk=>by cases hk))
 have F2:=Hd (Fill.start (B:=B) HO2.out HLE.out)
 have X2:=Hd ((B2.out.block _ (Array.getElem?_eq_some_iff.1 X0.out).1).trans X0.out)
 have hwg:w.heap.size+1≤w1.heap.size:=(Array.getElem?_eq_some_iff.1 X0.out).1
 have BB:=Hd (B0.out.trans (B2.out.mono B0.out.size))
 obtain ⟨g,hg⟩:∃ g,w1.heap.size=g:=⟨_,rfl⟩
 rw [hg] at F2 hwg ⊢
 clear HO2 HG2 B2 X0 B0 hg
 go_wp2_with fail
 go_loopg [13] vs.length (fun gk i wx=>∃ q:Nat,q+gk=vs.length∧i=.int .i64 q∧Aside (Fill B g q (elemsL n l m vs) wx∧Below w.heap.size w wx∧wx.heap[w.heap.size]? = some (.cells #[.string n,.int .i64 l,.int .i64 m] 43 (0,0))))
 case atStart=>exact ⟨0,by omega,rfl,Blk.Aside.intro ⟨F2.out,BB.out,X2.out⟩⟩
 case round =>
  obtain ⟨q,hq,rfl,HX⟩:=hrel
  obtain ⟨hf,hb,hx⟩:=HX.out
  have HF:=Hd hf
  have HBB:=Hd hb
  have HX:=Hd hx
  clear hf hb hx F2 X2 BB
  obtain ⟨x0,x1,x2⟩:=three_cells HX.out
  cases gk with
  | zero =>
    obtain rfl:q=vs.length:=by omega
    go_wp2_with fail
    go_ret
    have hd:=HF.out
    rw [← HLE.out] at hd
    have hdd:=hd.done (base:=w.heap.size) (by omega)
    exact ⟨some ⟨g,0,none⟩,vs.length,by rw [HLE.out];rfl,Nat.le_of_eq HLE.out,hdd,HBB.out⟩
  | succ gg =>
    have hqn:q < vs.length:=by omega
    have hqn':(q:Int) < (vs.length:Int):=by omega
    obtain ⟨x,hx⟩:∃ x,vs[q]? = some x:=⟨_,List.getElem?_eq_getElem hqn⟩
    obtain ⟨b,p,A3,k3,A4,k4,rfl,hb,⟨g0,g1,g2,g3,g4⟩,hT⟩:=val_at (RowT.below (HBB.out.mono HB.out) HR.out) hx
    have hxl:Hid ((elemsL n l m vs)[q]? = some ⟨n,l,m,false,x⟩):=Hd (by unfold elemsL;rw [List.getElem?_map,hx];rfl)
    have hbl:b < wr.heap.size:=Nat.lt_of_lt_of_le hb (Nat.le_trans HB.out HBB.out.size)
    have HT:=Hd hT
    have hgl:=HF.out.lt
    clear hT hx hb
    go_upto_region 5 with fail
    clear g0 g1 g2 g3 g4 x0 x1 x2
    have B2:=Hd (dbelow_new wr (.cells #[.int .i64 x.kd,.int .i64 x.nn,.string x.ss,.slice A3 x.ls.len k3,.slice A4 x.ms.len k4] 58))
    have Y2:=heap_alloc_new wr (.cells #[.int .i64 x.kd,.int .i64 x.nn,.string x.ss,.slice A3 x.ls.len k3,.slice A4 x.ms.len k4] 58)
    generalize wr.alloc (.cells #[.int .i64 x.kd,.int .i64 x.nn,.string x.ss,.slice A3 x.ls.len k3,.slice A4 x.ms.len k4] 58)=w3 at B2 Y2 ⊢
    have hBw:=Nat.le_trans HB.out HBB.out.size
    have F3:=Hd (HF.out.low hBw B2.out)
    have T3:=Hd (pl_ts (p:=⟨n,l,m,false,x⟩) HN.out (TS.low (B2.out.mono hBw) HT.out))
    have X3:=Hd ((B2.out.block _ (Array.getElem?_eq_some_iff.1 HX.out).1).trans HX.out)
    have D3:=Hd (HBB.out.trans (B2.out.mono HBB.out.size))
    have hset:=F3.out.set (by have:=HB.out;omega) hxl.out T3.out
    have hg3:=F3.out.lt
    obtain ⟨cur3,hcur3,hsz3⟩:=F3.out.1
    obtain ⟨O,hO⟩:∃ O,q*9=O:=⟨_,rfl⟩
    rw [hO] at hset
    obtain ⟨e0,e1,e2,e3,e4,e5,e6,e7,e8,⟨z0,z1,z2,z3,z4,z5,z6,z7,z8⟩,v0,v1,v2,v3,v4,v5,v6,v7,v8⟩:=fill_cells hcur3 (O:=O) (by have:=HLE.out;omega)
    have HSet:=Hd hset
    obtain ⟨y0,y1,y2,y3,y4⟩:=five_at Y2
    obtain ⟨x0,x1,x2⟩:=three_cells X3.out
    clear hset Y2 hcur3 hsz3
    generalize wr.heap.size=g2 at y0 y1 y2 y3 y4 ⊢
    go_wp2_with fail
    go_roundg gg
    case measure=>omega
    case rel=>exact ⟨q+1,by omega,by go_num,Blk.Aside.intro ⟨HSet.out,nine_low' D3.out (by omega),(nine_heap' (by omega)).trans X3.out⟩⟩
def PlR (B base:Nat) (W:World) (V:Value) (l:List PlT):Prop:=∃ xs,W.ownsRow base 163 9 V l.length xs∧TLV W (fun b=>b < B) (rowOf encPl l) xs
theorem PlR.nil (B base:Nat) (W:World):PlR B base W (.slice none 0 0) []:=⟨[],World.ownsRow_nil _ _ _ _,rfl⟩
theorem PlR.low {B base:Nat} {W W':World} {V:Value} {l:List PlT} (h:PlR B base W V l) (hB:B≤W.heap.size) (hb:Below W.heap.size W W'):PlR B base W' V l:=by
 obtain ⟨xs,h1,h2⟩:=h
 exact ⟨xs,own_low h1 hb,TLV.keep (fun b hlt=>⟨hlt,hb.block b (Nat.lt_of_lt_of_le hlt hB)⟩) h2⟩
theorem PlR.pls {B base:Nat} {W:World} {V:Value} {l:List PlT} (h:PlR B base W V l):∃ A c,V=.slice A l.length c∧l.length≤c∧PlsAt W B base l A:=by
 obtain ⟨xs,h1,h2⟩:=h
 obtain ⟨A,c,rfl⟩:=shape_own h1
 refine ⟨A,c,rfl,?_,fun j x hx=>?_⟩
 · rcases h1.2 with ⟨e,h0⟩|⟨g,cap,cur,e,hb,hg,hnc,_⟩
   · omega
   · simp only [Value.slice.injEq,true_and] at e
     obtain ⟨_,rfl⟩:=e
     exact hnc
 obtain ⟨cs,h3,h4⟩:=tlv_at encPl_len h2 hx
 rcases h1.2 with ⟨e,h0⟩|⟨g,cap,cur,e,hb,hg,_⟩
 · have:=(List.getElem?_eq_some_iff.1 hx).1
   omega
 · simp only [Value.slice.injEq,true_and] at e
   obtain ⟨rfl,rfl⟩:=e
   refine ⟨g,0,cs,rfl,hb,(Array.getElem?_eq_some_iff.1 hg).1,h3,fun i u hu=>?_⟩
   have:=h1.cells (g:=g) rfl (j*9+i) u (h4 i u hu)
   rw [add_at] at this
   rwa [Nat.zero_add] at this ⊢
theorem mem_at {w:World} {P:Nat→Prop} {l:List (ByteArray × VT)} {A:Option Addr} {q:Nat} {x:ByteArray × VT} (h:RowT w P (rowOf encPr l) A) (hx:l[q]? = some x) :
  ∃ b p A3 k3 A4 k4,A=some ⟨b,p,none⟩∧P b∧(w.cell? ⟨b,p+q*6,none⟩=some (.string x.1)∧w.cell? ⟨b,p+q*6+1,none⟩=some (.int .i64 x.2.kd)∧w.cell? ⟨b,p+q*6+2,none⟩=some (.int .i64 x.2.nn)∧w.cell? ⟨b,p+q*6+3,none⟩=some (.string x.2.ss)∧w.cell? ⟨b,p+q*6+4,none⟩=some (.slice A3 x.2.ls.len k3)∧w.cell? ⟨b,p+q*6+5,none⟩=some (.slice A4 x.2.ms.len k4)) ∧
    x.1.size≤9223372036854775807∧TS w P (encV x.2) [.int .i64 x.2.kd,.int .i64 x.2.nn,.string x.2.ss,.slice A3 x.2.ls.len k3,.slice A4 x.2.ms.len k4]:=by
 obtain ⟨b,p,cs,e,hb,hc,h1⟩:=rowOf_at 6 (fun x=>by unfold encPr;rw [TrS.len,encV_len]) h hx
 unfold encPr at h1
 rw [TS] at h1
 obtain ⟨_,_,rfl,h2,h3⟩:=h1
 unfold TP at h2
 obtain ⟨rfl,h2⟩:=h2
 obtain ⟨A3,k3,A4,k4,rfl,_⟩:=encv_cells h3
 exact ⟨b,p,A3,k3,A4,k4,e,hb,⟨hc 0 _ rfl,hc 1 _ rfl,hc 2 _ rfl,hc 3 _ rfl,hc 4 _ rfl,hc 5 _ rfl⟩,h2,h3⟩
theorem memsL_at {ps:List VarT} {l:List (ByteArray × VT)} {q:Nat} {x:ByteArray × VT} (h:l[q]? = some x):memsL ps (l.take (q+1))=memsL ps (l.take q)++(if (paramD ps x.1).2=true then [⟨(paramD ps x.1).1.tn,(paramD ps x.1).1.tl,(paramD ps x.1).1.tm,(paramD ps x.1).1.has,x.2⟩] else []):=by
 unfold memsL
 rw [List.take_add_one,h,List.flatMap_append]
 simp
theorem memsL_len (ps:List VarT):∀ l:List (ByteArray × VT),(memsL ps l).length≤l.length
 | []=>Nat.le_refl _
 | x :: t=>by
   have:=memsL_len ps t
   unfold memsL at this ⊢
   rw [List.flatMap_cons,List.length_append,List.length_cons]
   have h:(if (paramD ps x.1).2=true then [(⟨(paramD ps x.1).1.tn,(paramD ps x.1).1.tl,(paramD ps x.1).1.tm,(paramD ps x.1).1.has,x.2⟩:PlT)] else []).length≤1:=by split<;>simp
   omega
theorem paramD_tn {w:World} {P:Nat→Prop} {l:List VarT} {A:Option Addr} (h:RowT w P (rowOf encVar l) A) (n:ByteArray):(paramD l n).1.tn.size≤9223372036854775807:=by
 induction l generalizing A with
 | nil=>exact Nat.zero_le _
 | cons x t ih =>
   rw [rowOf] at h
   unfold RowT at h
   obtain ⟨b,o,cs,_,_,_,h1,h2⟩:=h
   rw [paramD]
   split
   · obtain ⟨_,_,_,_,_,_,h3⟩:=var_cells h1
     exact h3
   · exact ih h2
theorem members_any (ps:List VarT) (Ap:Option Addr) (cp:Nat) (ms:List (ByteArray × VT)) (A:Option Addr) (c:Nat) (w:World) (B:Nat) (P:Nat→Prop) (hB:B≤w.heap.size) (hP:∀ b,P b→b < w.heap.size) (hps:ps.length≤9223372036854775807) (hz:ms.length*120≤140737488355328) (hR:RowT w P (rowOf encVar ps) Ap) (hM:RowT w (fun b=>b < B) (rowOf encPr ms) A) :
  Calls Tryz.prog 205 #[.slice Ap ps.length cp,.slice A ms.length c] w (PlsO (memsL ps ms) B w):=by
 obtain ⟨i0,z,hi,hz0,hz1,hz2,hz3⟩:=cinfo_pl
 have HM:=Hd hM
 have HB:=Hd hB
 have HZ:=Hd hz
 have TN:=Hd (fun n=>paramD_tn hR n)
 have PA:=Hd (fun (wx:World) (hb:Below w.heap.size w wx) (n:ByteArray) (hn:n.size≤9223372036854775807)=>param_any ps Ap cp n wx P (fun b h=>Nat.lt_of_lt_of_le (hP b h) hb.size) hps hn (RowT.keep (fun b h=>⟨h,hb.block b (hP b h)⟩) _ _ hR))
 clear hM hB hP hR hps
 go_enter Tryz.func205,Tryz.ntmps205
 go_wp2_with fail
 go_loopg [5,12] ms.length (fun gk v i wx=>∃ q:Nat,q+gk=ms.length∧i=.int .i64 q∧Aside (PlR B w.heap.size wx v (memsL ps (ms.take q))∧Below w.heap.size w wx))
 case atStart=>exact ⟨0,by omega,rfl,Blk.Aside.intro ⟨by rw [List.take_zero];exact PlR.nil _ _ _,Below.refl _ _⟩⟩
 case round =>
  obtain ⟨q,hq,rfl,HX⟩:=hrel
  obtain ⟨hf,hb⟩:=HX.out
  have HF:=Hd hf
  have HBB:=Hd hb
  clear HX hf hb
  cases gk with
  | zero =>
    obtain rfl:q=ms.length:=by omega
    go_wp2_with fail
    go_ret
    have hd:=HF.out
    rw [List.take_length] at hd
    obtain ⟨A',c',rfl,hlc,hpl⟩:=hd.pls
    exact ⟨A',c',rfl,hlc,hpl,HBB.out⟩
  | succ gg =>
    have hqn:q < ms.length:=by omega
    have hqn':(q:Int) < (ms.length:Int):=by omega
    obtain ⟨x,hx⟩:∃ x,ms[q]? = some x:=⟨_,List.getElem?_eq_getElem hqn⟩
    have hBw:=Nat.le_trans HB.out HBB.out.size
    obtain ⟨b,p,A3,k3,A4,k4,rfl,hb,⟨g0,g1,g2,g3,g4,g5⟩,hnm,hT⟩:=mem_at (RowT.below (HBB.out.mono HB.out) HM.out) hx
    have hML:=Hd (memsL_at (ps:=ps) hx)
    have hbl:b < wr.heap.size:=Nat.lt_of_lt_of_le hb hBw
    have HT:=Hd hT
    have HNM:=Hd hnm
    clear hT hx hb hnm
    go_upto_region 5 with fail
    clear g0 g1 g2 g3 g4 g5
    have B2:=Hd (dbelow_new wr (.cells #[.string x.1,.int .i64 x.2.kd,.int .i64 x.2.nn,.string x.2.ss,.slice A3 x.2.ls.len k3,.slice A4 x.2.ms.len k4] 97))
    have Y2:=Hd (heap_alloc_new wr (.cells #[.string x.1,.int .i64 x.2.kd,.int .i64 x.2.nn,.string x.2.ss,.slice A3 x.2.ls.len k3,.slice A4 x.2.ms.len k4] 97))
    generalize wr.alloc (.cells #[.string x.1,.int .i64 x.2.kd,.int .i64 x.2.nn,.string x.2.ss,.slice A3 x.2.ls.len k3,.slice A4 x.2.ms.len k4] 97)=w2 at B2 Y2 ⊢
    obtain ⟨g2,hg2⟩:∃ g,wr.heap.size=g:=⟨_,rfl⟩
    have HG2:=Hd hg2
    rw [hg2] at Y2 ⊢
    obtain ⟨⟨y0,y1,y2,y3,y4,y5⟩,_⟩:=six_cells Y2.out
    clear hg2
    go_wp2_with fail
    refine (PA.out _ (HBB.out.trans (B2.out.mono HBB.out.size)) _ HNM.out).mono ?_
    rintro e w3 ⟨E3,j3,E4,j4,rfl,hb3⟩
    have B3:=Hd (B2.out.trans (hb3.mono B2.out.size))
    have Y3:=Hd ((hb3.block g2 (Array.getElem?_eq_some_iff.1 Y2.out).1).trans Y2.out)
    have HTN:=Hd (TN.out x.1)
    generalize paramD ps x.1=y at hML HTN ⊢
    obtain ⟨⟨ynm,ytn,ytl,ytm,yhas,yv⟩,ok⟩:=y
    dsimp only at hML HTN ⊢
    clear hb3 y0 y1 y2 y3 y4 y5
    go_upto_region 6 with fail
    have B4:=Hd (B3.out.trans ((dbelow_new w3 (.cells #[.string ynm,.string ytn,.int .i64 ytl,.int .i64 ytm,.bool yhas,.int .i64 yv.kd,.int .i64 yv.nn,.string yv.ss,.slice E3 yv.ls.len j3,.slice E4 yv.ms.len j4] 60)).mono B3.out.size))
    have Y4:=(Below.heap_alloc w3 (.cells #[.string ynm,.string ytn,.int .i64 ytl,.int .i64 ytm,.bool yhas,.int .i64 yv.kd,.int .i64 yv.nn,.string yv.ss,.slice E3 yv.ls.len j3,.slice E4 yv.ms.len j4] 60) g2 (Array.getElem?_eq_some_iff.1 Y3.out).1).trans Y3.out
    have Z4:=heap_alloc_new w3 (.cells #[.string ynm,.string ytn,.int .i64 ytl,.int .i64 ytm,.bool yhas,.int .i64 yv.kd,.int .i64 yv.nn,.string yv.ss,.slice E3 yv.ls.len j3,.slice E4 yv.ms.len j4] 60)
    generalize w3.alloc (.cells #[.string ynm,.string ytn,.int .i64 ytl,.int .i64 ytm,.bool yhas,.int .i64 yv.kd,.int .i64 yv.nn,.string yv.ss,.slice E3 yv.ls.len j3,.slice E4 yv.ms.len j4] 60)=w4 at B4 Y4 Z4 ⊢
    generalize w3.heap.size=g4 at Z4 ⊢
    obtain ⟨⟨y0,y1,y2,y3,y4,y5⟩,_⟩:=six_cells Y4
    obtain ⟨⟨z0,z1,z2,z3,z4,_⟩,_⟩:=ten_cells Z4
    have F4:=Hd (HF.out.low hBw B4.out)
    have D4:=Hd (HBB.out.trans (B4.out.mono HBB.out.size))
    clear Y4 Z4 Y3 Y2
    cases ok with
    | false =>
      go_wp2_with fail
      go_roundg gg
      case measure=>omega
      case rel=>exact ⟨q+1,by omega,by go_num,Blk.Aside.intro ⟨by rw [hML.out,if_neg (by simp),List.append_nil];exact F4.out,D4.out⟩⟩
    | true =>
      obtain ⟨xs,ho,hv⟩:=F4.out
      obtain ⟨Ao,co,rfl⟩:=shape_own ho
      have HO:=Hd ho
      have HV:=Hd hv
      have hml:=Hd (memsL_len ps (ms.take q))
      have hz:=HZ.out
      have hll:(memsL ps (ms.take q)).length≤q:=by have h1:=hml.out;rw [List.length_take] at h1;omega
      have hws:=D4.out.size
      clear ho hv
      go_wp2_with (at_builtin;go_loud (refine wpList_append_lies _ rfl _ _ 172 rfl w.heap.size 163 i0 z 9 120 Tryz.underlying172 hi hz0 hz1 hz2 hz3 (by decide) _ (memsL ps (ms.take q)).length xs rfl (HO.out.alloc _) _ 1 1 [.string ytn,.int .i64 ytl,.int .i64 ytm,.bool yhas,.int .i64 x.2.kd,.int .i64 x.2.nn,.string x.2.ss,.slice A3 x.2.ls.len k3,.slice A4 x.2.ms.len k4] rfl rfl (nine_news _ _ _ _ _ _ _ _ _ _ _ (by first|rfl|(simp;done))) (by intro y hy;simp at hy;rcases hy with rfl|rfl|rfl|rfl|rfl|rfl|rfl|rfl|rfl<;>rfl) (by decide) (by unfold maxLen;omega) (by omega) (by simp;omega) _ rfl ?_;intro g6 cap6 w6 hown6 hgrow hat hlt6;have HG6:=Hd hgrow;have HO6:=Hd hown6;clear hgrow hown6 hat))
      go_roundg gg
      case measure=>omega
      case rel =>
       have D6:=(D4.out.alloc hws _).grown HG6.out (by simp;omega) (fun k hk=>(HO.out.lt k hk).1)
       refine ⟨q+1,by omega,by go_num,Blk.Aside.intro ⟨?_,D6⟩⟩
       rw [hML.out,if_pos (by simp)]
       have hk:∀ b,b < B→w6.heap[b]? = w4.heap[b]?:=fun b hb=>(HG6.out.block b (by have:=HB.out;simp;omega) (fun e=>by have:=(HO.out.lt b e.symm).1;have:=HB.out;omega)).trans (Below.heap_alloc w4 _ b (by have:=HB.out;omega))
       refine ⟨_,by rw [List.length_append];exact HO6.out,?_⟩
       rw [rowOf_snoc]
       exact TLV.snoc (pl_ts (p:=⟨ytn,ytl,ytm,yhas,x.2⟩) HTN.out (TS.keep (P':=fun b=>b < B) (fun b hb=>⟨hb,(hk b hb).trans (B4.out.block b (Nat.lt_of_lt_of_le hb hBw))⟩) _ _ HT.out)) (TLV.keep (fun b hb=>⟨hb,hk b hb⟩) HV.out)
def knownB (ps:List VarT) (ms:List (ByteArray × VT)):Bool:=ms.all fun x=>(paramD ps x.1).2
theorem knownB_at {ps:List VarT} {l:List (ByteArray × VT)} {q:Nat} {x:ByteArray × VT} (h:l[q]? = some x):knownB ps (l.drop q)=((paramD ps x.1).2 && knownB ps (l.drop (q+1))):=by
 have hq:q < l.length:=(List.getElem?_eq_some_iff.1 h).1
 have e:l[q]=x:=(List.getElem?_eq_some_iff.1 h).2
 unfold knownB
 rw [List.drop_eq_getElem_cons hq,e,List.all_cons]
theorem known_any (ps:List VarT) (Ap:Option Addr) (cp:Nat) (ms:List (ByteArray × VT)) (A:Option Addr) (c:Nat) (w:World) (B:Nat) (P:Nat→Prop) (hB:B≤w.heap.size) (hP:∀ b,P b→b < w.heap.size) (hps:ps.length≤9223372036854775807) (hl:ms.length≤9223372036854775807) (hR:RowT w P (rowOf encVar ps) Ap) (hM:RowT w (fun b=>b < B) (rowOf encPr ms) A) :
  Calls Tryz.prog 210 #[.slice Ap ps.length cp,.slice A ms.length c] w fun e w'=>e=.returned (.bool (knownB ps ms))∧Below w.heap.size w w':=by
 have HM:=Hd hM
 have HB:=Hd hB
 have PA:=Hd (fun (wx:World) (hb:Below w.heap.size w wx) (n:ByteArray) (hn:n.size≤9223372036854775807)=>param_any ps Ap cp n wx P (fun b h=>Nat.lt_of_lt_of_le (hP b h) hb.size) hps hn (RowT.keep (fun b h=>⟨h,hb.block b (hP b h)⟩) _ _ hR))
 clear hM hB hP hR hps
 go_enter Tryz.func210,Tryz.ntmps210
 go_wp2_with fail
 go_loopg [11] ms.length (fun gk i wx=>∃ q:Nat,q+gk=ms.length∧i=.int .i64 q∧Aside (knownB ps (ms.drop q)=knownB ps ms∧Below w.heap.size w wx))
 case atStart=>exact ⟨0,by omega,rfl,Blk.Aside.intro ⟨rfl,Below.refl _ _⟩⟩
 case round =>
  obtain ⟨q,hq,rfl,HX⟩:=hrel
  obtain ⟨hf,hb⟩:=HX.out
  have HF:=Hd hf
  have HBB:=Hd hb
  clear HX hf hb
  cases gk with
  | zero =>
    obtain rfl:q=ms.length:=by omega
    go_wp2_with fail
    go_ret
    exact ⟨by rw [← HF.out,List.drop_length];rfl,HBB.out⟩
  | succ gg =>
    have hqn:q < ms.length:=by omega
    have hqn':(q:Int) < (ms.length:Int):=by omega
    obtain ⟨x,hx⟩:∃ x,ms[q]? = some x:=⟨_,List.getElem?_eq_getElem hqn⟩
    have hBw:=Nat.le_trans HB.out HBB.out.size
    obtain ⟨b,p,A3,k3,A4,k4,rfl,hb,⟨g0,g1,g2,g3,g4,g5⟩,hnm,hT⟩:=mem_at (RowT.below (HBB.out.mono HB.out) HM.out) hx
    have hK:=Hd (knownB_at (ps:=ps) hx)
    have hbl:b < wr.heap.size:=Nat.lt_of_lt_of_le hb hBw
    have HNM:=Hd hnm
    clear hT hx hb hnm
    go_upto_region 4 with fail
    clear g0 g1 g2 g3 g4 g5
    have B2:=Hd (dbelow_new wr (.cells #[.string x.1,.int .i64 x.2.kd,.int .i64 x.2.nn,.string x.2.ss,.slice A3 x.2.ls.len k3,.slice A4 x.2.ms.len k4] 97))
    have Y2:=heap_alloc_new wr (.cells #[.string x.1,.int .i64 x.2.kd,.int .i64 x.2.nn,.string x.2.ss,.slice A3 x.2.ls.len k3,.slice A4 x.2.ms.len k4] 97)
    generalize wr.alloc (.cells #[.string x.1,.int .i64 x.2.kd,.int .i64 x.2.nn,.string x.2.ss,.slice A3 x.2.ls.len k3,.slice A4 x.2.ms.len k4] 97)=w2 at B2 Y2 ⊢
    generalize hg2:wr.heap.size=g2 at Y2 ⊢
    obtain ⟨⟨y0,y1,y2,y3,y4,y5⟩,_⟩:=six_cells Y2
    clear Y2 hg2
    go_wp2_with fail
    refine (PA.out _ (HBB.out.trans (B2.out.mono HBB.out.size)) _ HNM.out).mono ?_
    rintro e w3 ⟨E3,j3,E4,j4,rfl,hb3⟩
    have B3:=Hd (HBB.out.trans ((B2.out.trans (hb3.mono B2.out.size)).mono HBB.out.size))
    generalize paramD ps x.1=y at hK ⊢
    obtain ⟨⟨ynm,ytn,ytl,ytm,yhas,yv⟩,ok⟩:=y
    dsimp only at hK ⊢
    clear hb3 y0 y1 y2 y3 y4 y5
    go_upto_region 5 with fail
    have B4:=Hd (B3.out.trans ((dbelow_new w3 (.cells #[.string ynm,.string ytn,.int .i64 ytl,.int .i64 ytm,.bool yhas,.int .i64 yv.kd,.int .i64 yv.nn,.string yv.ss,.slice E3 yv.ls.len j3,.slice E4 yv.ms.len j4] 60)).mono B3.out.size))
    generalize w3.alloc (.cells #[.string ynm,.string ytn,.int .i64 ytl,.int .i64 ytm,.bool yhas,.int .i64 yv.kd,.int .i64 yv.nn,.string yv.ss,.slice E3 yv.ls.len j3,.slice E4 yv.ms.len j4] 60)=w4 at B4 ⊢
    cases ok with
    | false =>
      go_wp2_with fail
      go_ret
      exact ⟨by rw [← HF.out,hK.out];rfl,B4.out⟩
    | true =>
      go_wp2_with fail
      go_roundg gg
      case measure=>omega
      case rel=>exact ⟨q+1,by omega,by go_num,Blk.Aside.intro ⟨by rw [← HF.out,hK.out];rfl,B4.out⟩⟩
def onceT:List ByteArray→List ByteArray→Bool
 | _,[]=>true
 | seen,s :: t=>if hasN seen s=true then false else onceT (seen++[s]) t
def onceB (ms:List (ByteArray × VT)):Bool:=onceT [] (ms.map (·.1))
theorem onceT_at {l:List ByteArray} {q:Nat} {s:ByteArray} (h:l[q]? = some s):onceT (l.take q) (l.drop q)=if hasN (l.take q) s=true then false else onceT (l.take (q+1)) (l.drop (q+1)):=by
 have hq:q < l.length:=(List.getElem?_eq_some_iff.1 h).1
 have e:l[q]=s:=(List.getElem?_eq_some_iff.1 h).2
 rw [List.drop_eq_getElem_cons hq,e,onceT,List.take_add_one,h]
 rfl
theorem lonce_any (ms:List (ByteArray × VT)) (A:Option Addr) (c:Nat) (w:World) (B:Nat) (hB:B≤w.heap.size) (hz:ms.length < maxLen) (hM:RowT w (fun b=>b < B) (rowOf encPr ms) A) :
  Calls Tryz.prog 209 #[.slice A ms.length c] w fun e w'=>e=.returned (.bool (onceB ms))∧Below w.heap.size w w':=by
 have hmm:=@run_makeMap Tryz.prog
 have HM:=Hd hM
 have HB:=Hd hB
 have HZ:=Hd hz
 have hl:ms.length≤9223372036854775807:=by unfold maxLen at hz;omega
 have B0:=Hd (dbelow_new w (.map #[] 0))
 have M0:=Hd (World.ownsMap_made w Tryz.prog 9 (plainElem (H:=Unit) Tryz.prog 4))
 clear hM hB hz
 go_enter Tryz.func209,Tryz.ntmps209
 go_wp2_with fail
 clear hmm
 go_loopg [9] ms.length (fun gk i wx=>∃ q:Nat,q+gk=ms.length∧i=.int .i64 q∧Aside (onceT ((ms.map (·.1)).take q) ((ms.map (·.1)).drop q)=onceB ms∧(∃ D:DataW Unit,wx.ownsMap Tryz.prog 9 (plainElem Tryz.prog 4) w.heap.size q D∧SeenD D ((ms.map (·.1)).take q))∧Below w.heap.size w wx∧w.heap.size < wx.heap.size))
 case atStart=>exact ⟨0,by omega,rfl,Blk.Aside.intro ⟨rfl,⟨_,M0.out,SeenD.nil⟩,B0.out,by simp⟩⟩
 case round =>
  obtain ⟨q,hq,rfl,HX⟩:=hrel
  obtain ⟨hf,⟨D,hm,hD⟩,hb,hlt0⟩:=HX.out
  have HF:=Hd hf
  have HMP:=Hd hm
  have HD:=Hd hD
  have HBB:=Hd hb
  clear HX hf hb hm hD
  cases gk with
  | zero =>
    obtain rfl:q=ms.length:=by omega
    clear HMP HD
    go_wp2_with fail
    go_ret
    exact ⟨by rw [← HF.out,List.drop_of_length_le (by rw [List.length_map];exact Nat.le_refl _)];rfl,HBB.out⟩
  | succ gg =>
    have hqn:q < ms.length:=by omega
    have hqn':(q:Int) < (ms.length:Int):=by omega
    obtain ⟨x,hx⟩:∃ x,ms[q]? = some x:=⟨_,List.getElem?_eq_getElem hqn⟩
    have hBw:=Nat.le_trans HB.out HBB.out.size
    obtain ⟨b,p,A3,k3,A4,k4,rfl,hb,⟨g0,g1,g2,g3,g4,g5⟩,hnm,hT⟩:=mem_at (RowT.below (HBB.out.mono HB.out) HM.out) hx
    have hxn:(ms.map (·.1))[q]? = some x.1:=by rw [List.getElem?_map,hx];rfl
    have hK:=Hd (onceT_at hxn)
    have hTK:=Hd (show (ms.map (·.1)).take (q+1)=(ms.map (·.1)).take q++[x.1] by rw [List.take_add_one,hxn];rfl)
    have hbl:b < wr.heap.size:=Nat.lt_of_lt_of_le hb hBw
    have hkey:=WideMaps.keyOf_string_mk (P:=Tryz.prog) Tryz.underlying9 (s:=x.1) (by unfold maxLen;omega)
    clear hT hx hb hxn
    go_upto_region 5 with fail
    clear g0 g1 g2 g3 g4 g5
    have B2:=Hd (dbelow_new wr (.cells #[.string x.1,.int .i64 x.2.kd,.int .i64 x.2.nn,.string x.2.ss,.slice A3 x.2.ls.len k3,.slice A4 x.2.ms.len k4] 97))
    have Y2:=heap_alloc_new wr (.cells #[.string x.1,.int .i64 x.2.kd,.int .i64 x.2.nn,.string x.2.ss,.slice A3 x.2.ls.len k3,.slice A4 x.2.ms.len k4] 97)
    have M2:=Hd (HMP.out.alloc (.cells #[.string x.1,.int .i64 x.2.kd,.int .i64 x.2.nn,.string x.2.ss,.slice A3 x.2.ls.len k3,.slice A4 x.2.ms.len k4] 97))
    generalize wr.alloc (.cells #[.string x.1,.int .i64 x.2.kd,.int .i64 x.2.nn,.string x.2.ss,.slice A3 x.2.ls.len k3,.slice A4 x.2.ms.len k4] 97)=w2 at B2 Y2 M2 ⊢
    have hgl:w.heap.size < wr.heap.size:=hlt0
    generalize hg2:wr.heap.size=g2 at Y2 hgl ⊢
    obtain ⟨⟨y0,y1,y2,y3,y4,y5⟩,_⟩:=six_cells Y2
    have D2:=Hd (HBB.out.trans (B2.out.mono HBB.out.size))
    have hs2:=B2.out.size
    have lk:=seen_look M2.out HD.out x.1 (by unfold maxLen;omega)
    have HY2:=Hd Y2
    clear Y2
    cases e:hasN ((ms.map (·.1)).take q) x.1 with
    | true =>
      rw [e] at lk
      clear hkey
      go_wp2_with fail
      go_ret
      exact ⟨by rw [← HF.out,hK.out,if_pos e];rfl,D2.out⟩
    | false =>
      rw [e] at lk
      have HMAX:q < maxLen:=by have:=HZ.out;omega
      go_wp2_with (at_mapUpdate;refine wpList_mapUpdate_own _ rfl _ _ _ 123 rfl 9 4 (Maps.string_keyed Tryz.underlying9) Tryz.underlying123 _ w.heap.size q D rfl M2.out HMAX _ _ _ rfl rfl hkey (.lit (.bool true)) [] (plainElem_bool Tryz.underlying4 true) ?_;intro w1 hm1 hg1;have HM1:=Hd hm1;have HG1:=Hd hg1;clear hm1 hg1)
      have B1:=Hd (below_grown (B:=w.heap.size) D2.out HG1.out D2.out.size (fun b hb=>by injection hb with hb;omega))
      have hs1:=HG1.out.size
      go_roundg gg
      case measure=>omega
      case rel=>exact ⟨q+1,by omega,by go_num,Blk.Aside.intro ⟨by rw [← HF.out,hK.out,if_neg (by rw [e];decide)],⟨_,HM1.out,by rw [hTK.out];exact HD.out.put x.1⟩,B1.out,by omega⟩⟩
end Go.Proofs.YtaekdfcpbepepaaGreatDoor
