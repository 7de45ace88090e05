/- Rows that are written in place, as lists of trees; defs.ownDir. -/
import Derived.Test.YtaekdfcpbepepaaGreatDoorQb3
set_option maxRecDepth 100000
set_option maxHeartbeats 8000000
namespace Go.Proofs.YtaekdfcpbepepaaGreatDoor
open Go.RowKit
def OwnP (P:Nat→Prop) (K:Nat) (w:World) (b:Nat):Prop:=b < w.heap.size∧(P b∨K≤b)
theorem cloned_row {ty:TypeId} {k n:Nat} {P:Nat→Prop} {l:TrL} {w:World} {e:Ending} {w':World} (h:Cloned ty k l n P w e w') (hn:l.len=n) (hP:∀ b,P b→b < w.heap.size) :
   ∃ A c,e=.returned (.slice A n c)∧RowT w' (OwnP P w.heap.size w') l A∧Below w.heap.size w w':=by
 obtain ⟨V,xs,rfl,h1,h2,h3⟩:=h
 rw [← hn] at h1
 obtain ⟨A,c,rfl,h4⟩:=row_tl h1 h2
 refine ⟨A,c,by rw [hn],RowT.keep (fun b hb=>⟨?_,rfl⟩) _ _ h4,h3⟩
 rcases hb with hb|hb
 · exact ⟨Nat.lt_of_lt_of_le (hP b hb) h3.size,.inl hb⟩
 · have:=World.ownsRow.lt h1 b hb
   exact ⟨this.2,.inr this.1⟩
theorem RowT.own {P:Nat→Prop} {K K':Nat} {w w':World} {l:TrL} {A:Option Addr} (h:RowT w (OwnP P K w) l A) (hs:w.heap.size≤w'.heap.size) (hK:K'≤K) (hb:∀ b,OwnP P K w b→w'.heap[b]? = w.heap[b]?):RowT w' (OwnP P K' w') l A:=
 RowT.keep (fun b hx=>⟨⟨Nat.lt_of_lt_of_le hx.1 hs,hx.2.imp_right (Nat.le_trans hK)⟩,hb b hx⟩) _ _ h
theorem setCells_other (g:Nat):∀ (cs:List Value) (o:Nat) (w:World) (b:Nat),b ≠ g→(w.setCells g o cs).heap[b]? = w.heap[b]?
 | [],_,_,_,_=>rfl
 | v :: r,o,w,b,h=>by rw [World.setCells,setCells_other g r _ _ b h];exact Below.heap_setCell _ _ _ _ h
theorem setCells_size (g:Nat) (cs:List Value) (o:Nat) (w:World):w.heap.size≤(w.setCells g o cs).heap.size:=(low_setCells (B:=g) g (Nat.le_refl _) cs o (Below.refl g w)).size
theorem setCells_shape (g:Nat) {t:TypeId} : ∀ (cs:List Value) (o:Nat) (w:World) (cur:Array Value),w.heap[g]? = some (.cells cur t (0,0))→∃ cur',(w.setCells g o cs).heap[g]? = some (.cells cur' t (0,0))∧cur'.size=cur.size
 | [],_,w,cur,h=>⟨cur,h,rfl⟩
 | v :: r,o,w,cur,h=>by
   have h2:(w.setCell ⟨g,o,none⟩ v).heap[g]? = some (.cells (cur.setIfInBounds o v) t (0,0)):=by
    simp only [World.setCell,Array.getElem?_modify,h]
    simp
   obtain ⟨cur',h3,h4⟩:=setCells_shape g r (o+1) _ _ h2
   exact ⟨cur',h3,by rw [h4];simp⟩
def RowAt {α:Type} (f:α→TrS) (k:Nat) (t:TypeId) (P:Nat→Prop) (K g:Nat) (l:List α) (w:World):Prop:=
 (∃ cur,w.heap[g]? = some (.cells cur t (0,0))∧l.length*k≤cur.size)∧∀ (q:Nat) x,l[q]? = some x→∃ cs,TS w (fun b=>OwnP P K w b∧b ≠ g) (f x) cs∧∀ (j:Nat) u,cs[j]? = some u→w.cell? ⟨g,q*k+j,none⟩=some u
theorem RowAt.lt {α:Type} {f:α→TrS} {k:Nat} {t:TypeId} {P:Nat→Prop} {K g:Nat} {l:List α} {w:World} (h:RowAt f k t P K g l w):g < w.heap.size:=by
 obtain ⟨⟨cur,h1,_⟩,_⟩:=h
 exact (Array.getElem?_eq_some_iff.1 h1).1
theorem RowAt.low {α:Type} {f:α→TrS} {k:Nat} {t:TypeId} {P:Nat→Prop} {K g:Nat} {l:List α} {w w':World} (h:RowAt f k t P K g l w) (hb:Below w.heap.size w w'):RowAt f k t P K g l w':=by
 have hg:=h.lt
 obtain ⟨⟨cur,h1,h2⟩,h3⟩:=h
 refine ⟨⟨cur,(hb.block _ hg).trans h1,h2⟩,fun q x hx=>?_⟩
 obtain ⟨cs,h4,h5⟩:=h3 q x hx
 exact ⟨cs,TS.keep (fun b hb'=>⟨⟨⟨Nat.lt_of_lt_of_le hb'.1.1 hb.size,hb'.1.2⟩,hb'.2⟩,hb.block b hb'.1.1⟩) _ _ h4,fun j u hu=>(hb.cell (p:=⟨g,q*k+j,none⟩) hg).trans (h5 j u hu)⟩
theorem RowAt.set {α:Type} {f:α→TrS} {k:Nat} {t:TypeId} {P:Nat→Prop} {K g:Nat} {l:List α} {w:World} (h:RowAt f k t P K g l w) (hk:∀ a,(f a).len=k) {q:Nat} {x:α} (hx:l[q]? = some x) {cs:List Value} (hc:TS w (fun b=>OwnP P K w b∧b ≠ g) (f x) cs) :
   RowAt f k t P K g l (w.setCells g (q*k) cs):=by
 obtain ⟨⟨cur,h1,h2⟩,h3⟩:=h
 have hlen:cs.length=k:=by rw [hc.len,hk]
 have hq:q < l.length:=(List.getElem?_eq_some_iff.1 hx).1
 have hqk:q*k+k≤l.length*k:=by rw [← Nat.succ_mul];exact Nat.mul_le_mul_right k hq
 have hkp:∀ {s:TrS} {ys:List Value},TS w (fun b=>OwnP P K w b∧b ≠ g) s ys→TS (w.setCells g (q*k) cs) (fun b=>OwnP P K (w.setCells g (q*k) cs) b∧b ≠ g) s ys:=fun hs=>TS.keep (fun b hb=>⟨⟨⟨Nat.lt_of_lt_of_le hb.1.1 (setCells_size _ _ _ _),hb.1.2⟩,hb.2⟩,setCells_other g cs _ w b hb.2⟩) _ _ hs
 obtain ⟨cur',h4,h5⟩:=setCells_shape g cs (q*k) w cur h1
 refine ⟨⟨cur',h4,by omega⟩,fun q' x' hx'=>?_⟩
 by_cases e:q'=q
 · subst e
   obtain rfl:x=x':=by rw [hx] at hx';exact Option.some.inj hx'
   refine ⟨cs,hkp hc,fun j u hu=>?_⟩
   have hj:=(List.getElem?_eq_some_iff.1 hu).1
   rw [World.cell?_setCells_in g cs (q'*k) w (fun i hi=>by rw [cells_get h1];simp;omega) j hj]
   exact (List.getElem?_eq_getElem hj).symm.trans hu
 · obtain ⟨ys,h6,h7⟩:=h3 q' x' hx'
   refine ⟨ys,hkp h6,fun j u hu=>?_⟩
   have hj:=(List.getElem?_eq_some_iff.1 hu).1
   rw [h6.len,hk] at hj
   rw [World.cell?_setCells_out g cs (q*k) w _ (fun _ _=>?_)]
   · exact h7 j u hu
   · show q'*k+j < q*k∨q*k+cs.length≤q'*k+j
     rcases Nat.lt_or_gt_of_ne e with h|h
     · have:q'*k+k≤q*k:=by rw [← Nat.succ_mul];exact Nat.mul_le_mul_right k h
       omega
     · have:q*k+k≤q'*k:=by rw [← Nat.succ_mul];exact Nat.mul_le_mul_right k h
       omega
theorem tlv_at {w:World} {P:Nat→Prop} {α:Type} {f:α→TrS} {k:Nat} (hk:∀ a,(f a).len=k):∀ {l:List α} {xs:List Value} {q:Nat} {x:α},TLV w P (rowOf f l) xs→l[q]? = some x→∃ cs,TS w P (f x) cs∧∀ (j:Nat) u,cs[j]? = some u→xs[q*k+j]? = some u
 | [],_,_,_,_,h=>by simp at h
 | a :: t,xs,0,x,h,hx=>by
   obtain rfl:a=x:=by simpa using hx
   obtain ⟨cs,ys,rfl,h1,h2⟩:=h
   refine ⟨cs,h1,fun j u hu=>?_⟩
   rw [Nat.zero_mul,Nat.zero_add,List.getElem?_append_left (List.getElem?_eq_some_iff.1 hu).1]
   exact hu
 | a :: t,xs,q+1,x,h,hx=>by
   obtain ⟨cs,ys,rfl,h1,h2⟩:=h
   obtain ⟨zs,h3,h4⟩:=tlv_at hk h2 (by simpa using hx)
   refine ⟨zs,h3,fun j u hu=>?_⟩
   have hl:cs.length=k:=by rw [h1.len,hk]
   rw [List.getElem?_append_right (by rw [hl,Nat.succ_mul];omega),hl,show (q+1)*k+j - k=q*k+j by rw [Nat.succ_mul];omega]
   exact h4 j u hu
theorem RowAt.start {α:Type} {f:α→TrS} {k K n:Nat} {P:Nat→Prop} {t:TypeId} {l:List α} {w:World} {V:Value} {xs:List Value} (hk:∀ a,(f a).len=k) (h1:w.ownsRow K t k V n xs) (h2:TLV w P (rowOf f l) xs) (hB:∀ b,P b→b < K) (hbw:K≤w.heap.size) (hn:n=l.length) (hp:0 < n) :
   ∃ g c,V=.slice (some ⟨g,0,none⟩) n c∧K≤g∧RowAt f k t P K g l w:=by
 have hx:=h1
 rcases h1.2 with ⟨_,h0⟩|⟨g,cap,cur,e,hb,hg,hnc,hm,hcs,htk⟩
 · omega
 · subst e
   refine ⟨g,cap,rfl,hb,⟨cur,hg,by rw [hcs,← hn];exact Nat.mul_le_mul_right k hnc⟩,fun q x hq=>?_⟩
   obtain ⟨cs,h3,h4⟩:=tlv_at hk h2 hq
   refine ⟨cs,TS.keep (fun b hb'=>⟨⟨⟨Nat.lt_of_lt_of_le (hB b hb') hbw,.inl hb'⟩,fun e=>by have:=hB b hb';omega⟩,rfl⟩) _ _ h3,fun j u hu=>?_⟩
   have hj:j < k:=by have:=(List.getElem?_eq_some_iff.1 hu).1;rw [h3.len,hk] at this;exact this
   have hql:q < l.length:=(List.getElem?_eq_some_iff.1 hq).1
   have hqk:q*k+k≤n*k:=by rw [← Nat.succ_mul,hn];exact Nat.mul_le_mul_right k hql
   rw [World.ownsRow.cellAt hx _ (by omega)]
   exact h4 j u hu
theorem row_build {α:Type} {f:α→TrS} {k:Nat} {w:World} {P:Nat→Prop} {g:Nat} (hg:P g) (hk:∀ a,(f a).len=k):∀ {l:List α} {o:Nat},(∀ (q:Nat) x,l[q]? = some x→∃ cs,TS w P (f x) cs∧∀ (j:Nat) u,cs[j]? = some u→w.cell? ⟨g,o+(q*k+j),none⟩=some u)→RowT w P (rowOf f l) (some ⟨g,o,none⟩)
 | [],_,_=>by rw [rowOf];unfold RowT;trivial
 | a :: t,o,h=>by
   rw [rowOf]
   unfold RowT
   obtain ⟨cs,h1,h2⟩:=h 0 a rfl
   refine ⟨g,o,cs,rfl,hg,fun j u hu=>by have:=h2 j u hu;rwa [Nat.zero_mul,Nat.zero_add] at this,h1,?_⟩
   rw [hk]
   refine row_build hg hk fun q x hx=>?_
   obtain ⟨ys,h3,h4⟩:=h (q+1) x (by simpa using hx)
   exact ⟨ys,h3,fun j u hu=>by have:=h4 j u hu;rwa [Nat.succ_mul,show o+(q*k+k+j)=o+k+(q*k+j) by omega] at this⟩
theorem RowAt.row {α:Type} {f:α→TrS} {k:Nat} {t:TypeId} {P:Nat→Prop} {K g:Nat} {l:List α} {w:World} (h:RowAt f k t P K g l w) (hk:∀ a,(f a).len=k) (hKg:K≤g):RowT w (OwnP P K w) (rowOf f l) (some ⟨g,0,none⟩):=by
 have hg:OwnP P K w g:=⟨h.lt,.inr hKg⟩
 obtain ⟨_,h3⟩:=h
 refine row_build (P:=OwnP P K w) hg hk fun q x hx=>?_
 obtain ⟨cs,h1,h2⟩:=h3 q x hx
 exact ⟨cs,TS.keep (fun b hb=>⟨hb.1,rfl⟩) _ _ h1,fun j u hu=>by rw [Nat.zero_add];exact h2 j u hu⟩
theorem two_size (w:World) (o o':Obj):((w.alloc o).alloc o').heap.size=w.heap.size+2:=by simp
theorem OwnP.ne {P:Nat→Prop} {K:Nat} {w:World} {b g:Nat} (h:OwnP P K w b) (h1:∀ b,P b→b < g) (h2:g < K):b ≠ g:=by
 rcases h.2 with h|h
 · exact Nat.ne_of_lt (h1 b h)
 · omega
theorem two_cells' {w:World} {g:Nat} {c0 c1:Value} {t:TypeId} (h:w.heap[g]? = some (.cells #[c0,c1] t (0,0))):w.cell? ⟨g,0,none⟩=some c0∧w.cell? ⟨g,1,none⟩=some c1∧w.frozen? ⟨g,0,none⟩=false∧w.frozen? ⟨g,1,none⟩=false:=by
 simp [World.cell?,World.frozen?,h]
theorem ret_dir {R:Ending→World→Prop} {fn:Func} {a:Act} {W:World} {c0 c1:Value} {p b:Nat} (hf:fn.results=#[.cell p 83]) (h2:a.tmps.getD p undef=.pointer (some ⟨b,0,none⟩)) (hd:a.defers=[])
  (hc:W.heap[b]? = some (.cells #[c0,c1] 83 (0,0))) (hR:R (.returned (.agg #[c0,c1])) W):bodyPost Tryz.prog fn R .ret a W:=by
 have hl:(loadVar 83 ⟨b,0,none⟩).run Tryz.prog W=.ok (.agg #[c0,c1]) W:=
  run_loadVar_row W b 83 83 #[c0,c1] (0,0) _ hc Tryz.underlying83 rfl (by kernel_rfl)
 refine bodyPost_ret ?_ hd hR
 have h2':a.tmps[p]?.getD undef=.pointer (some ⟨b,0,none⟩):=by rw [← h2];simp
 simp [results,hf,h2',asAddr,hl]
theorem dir_cells {w:World} {P:Nat→Prop} {d:DirT} {cs:List Value} (h:TS w P (encD d) cs):∃ A k,cs=[.string d.1,.slice A d.2.len k]∧d.1.size≤9223372036854775807∧d.2.len≤9223372036854775807∧RowT w P (encM d.2) A:=by
 simp only [encD,TS,TP] at h
 obtain ⟨c0,_,rfl,⟨rfl,hz⟩,c1,_,rfl,⟨A,k,rfl,l1,h1⟩,rfl⟩:=h
 rw [encM_len] at *
 exact ⟨A,k,rfl,hz,l1,h1⟩
theorem dir_ts {w:World} {P:Nat→Prop} {d:DirT} {A:Option Addr} {k:Nat} (hn:d.1.size≤9223372036854775807) (hl:d.2.len≤9223372036854775807) (h:RowT w P (encM d.2) A):TS w P (encD d) [.string d.1,.slice A d.2.len k]:=by
 simp only [encD,TS,TP]
 exact ⟨_,_,rfl,⟨rfl,hn⟩,_,_,rfl,⟨A,k,by rw [encM_len],by rw [encM_len];exact hl,h⟩,rfl⟩
def OwnD (x:DirT) (P:Nat→Prop) (w:World) (e:Ending) (w':World):Prop:=∃ A c,e=.returned (.agg #[.string x.1,.slice A x.2.len c])∧TS w' (OwnP P w.heap.size w') (encD x) [.string x.1,.slice A x.2.len c]∧Below w.heap.size w w'
theorem owndir_any (x:DirT) (c0 c1:Value) (w:World) (P:Nat→Prop) (hP:∀ b,P b→b < w.heap.size) (hz:x.2.len*96≤140737488355328) (hT:TS w P (encD x) [c0,c1]) :
  Calls Tryz.prog 85 #[.agg #[c0,c1]] w (OwnD x P w):=by
 obtain ⟨n,m⟩:=x
 obtain ⟨A,c,e,hn,hl,hR⟩:=dir_cells hT
 injection e with e0 e
 injection e with e1 e
 subst e0 e1
 have HNL:=Hd (And.intro hn hl)
 clear e hT hn hl
 have C:=Hd (fun (wx:World) (hb:Below w.heap.size w wx)=>clone_mem m A c wx P (fun b h=>Nat.lt_of_lt_of_le (hP b h) hb.size) hz (RowT.keep (fun b h=>⟨h,hb.block b (hP b h)⟩) _ _ hR))
 have B0:=Hd (fun o o'=>tbl w o o')
 have X0:=Hd (And.intro ((Below.heap_alloc (w.alloc (.cells #[.string n,.slice A m.len c] 83)) (.cells #[.string ⟨#[]⟩,.slice none 0 0] 83) w.heap.size (by simp)).trans (heap_alloc_new w (.cells #[.string n,.slice A m.len c] 83))) (heap_two w (.cells #[.string n,.slice A m.len c] 83) (.cells #[.string ⟨#[]⟩,.slice none 0 0] 83)))
 clear hR
 go_enter Tryz.func85,Tryz.ntmps85
 go_wp2_with fail
 refine (C.out _ (B0.out _ _)).mono ?_
 rintro e w1 h1
 obtain ⟨A1,c1',rfl,hr1,hb1⟩:=cloned_row h1 (encM_len m) (fun b h=>Nat.lt_of_lt_of_le (hP b h) (B0.out _ _).size)
 rw [two_size] at hr1
 have R1:=Hd hr1
 have B1:=Hd ((B0.out _ _).trans (hb1.mono (B0.out _ _).size))
 have x1:=(hb1.block w.heap.size (by simp;omega)).trans X0.out.1
 have x2:=(hb1.block (w.heap.size+1) (by simp)).trans X0.out.2
 have hs1:=hb1.size
 obtain ⟨y0,y1,y2,y3⟩:=two_cells' x1
 obtain ⟨z0,z1,z2,z3⟩:=two_cells' x2
 have X1:=Hd x1
 have X2:=Hd x2
 clear h1 hr1 hb1 x1 x2 C X0
 clear hz
 go_upto_region 2 with fail
 clear y0 y1 y2 y3 z0 z1 z2 z3
 have hne0:∀ b,OwnP P (w.heap.size+2) w1 b→b ≠ w.heap.size:=fun b hb=>hb.ne hP (by omega)
 have x1:(w1.setCell ⟨w.heap.size,1,none⟩ (.slice A1 m.len c1')).heap[w.heap.size]? = some (.cells #[.string n,.slice A1 m.len c1'] 83 (0,0)):=by simp [World.setCell,Array.getElem?_modify,X1.out]
 have x2:(w1.setCell ⟨w.heap.size,1,none⟩ (.slice A1 m.len c1')).heap[w.heap.size+1]? = _:=(Below.heap_setCell _ _ _ _ (Nat.succ_ne_self _)).trans X2.out
 have B2:=Hd (B1.out.setCell (p:=⟨w.heap.size,1,none⟩) (Nat.le_refl _) (.slice A1 m.len c1'))
 have R2:=Hd (R1.out.own (w':=w1.setCell ⟨w.heap.size,1,none⟩ (.slice A1 m.len c1')) (by simp [World.setCell]) (Nat.le_refl _) (fun b hb=>Below.heap_setCell _ _ _ _ (hne0 b hb)))
 generalize w1.setCell ⟨w.heap.size,1,none⟩ (.slice A1 m.len c1')=wz at x1 x2 B2 R2 ⊢
 clear X1 X2 R1 B1 hs1
 obtain ⟨y0,y1,_⟩:=two_cells' x1
 obtain ⟨z0,z1,z2,z3⟩:=two_cells' x2
 have X2:=Hd x2
 clear x1 x2
 go_wp2_with fail
 refine ret_dir rfl rfl rfl (by simp [World.setCell,Array.getElem?_modify,X2.out];exact ⟨rfl,rfl⟩) ?_
 refine ⟨A1,c1',rfl,dir_ts HNL.out.1 HNL.out.2 (R2.out.own (by simp [World.setCell]) (by omega) (fun b hb=>?_)),(B2.out.setCell (p:=⟨w.heap.size+1,0,none⟩) (Nat.le_succ _) _).setCell (p:=⟨w.heap.size+1,1,none⟩) (Nat.le_succ _) _⟩
 have hne:b ≠ w.heap.size+1:=hb.ne (fun b h=>Nat.lt_succ_of_lt (hP b h)) (by omega)
 exact (Below.heap_setCell _ _ _ _ hne).trans (Below.heap_setCell _ _ _ _ hne)
theorem eachD_at {w:World} {P:Nat→Prop} {K g:Nat} {l:List DirT} {q:Nat} {x:DirT} (h:RowAt encD 2 83 P K g l w) (hx:l[q]? = some x) :
  ∃ c0 c1,TS w (fun b=>OwnP P K w b∧b ≠ g) (encD x) [c0,c1]∧(w.cell? ⟨g,q*2,none⟩=some c0∧w.cell? ⟨g,q*2+1,none⟩=some c1)∧w.frozen? ⟨g,q*2,none⟩=false∧w.frozen? ⟨g,q*2+1,none⟩=false:=by
 obtain ⟨⟨cur,h1,h2⟩,h3⟩:=h
 obtain ⟨cs,h4,h5⟩:=h3 q x hx
 have hl:cs.length=2:=by rw [h4.len,len_dir]
 have hq:q < l.length:=(List.getElem?_eq_some_iff.1 hx).1
 match cs,hl with
 | [c0,c1],_=>exact ⟨c0,c1,h4,⟨h5 0 _ rfl,h5 1 _ rfl⟩,cells_frozen h1 _,cells_frozen h1 _⟩
def EachD (l:List DirT) (P:Nat→Prop) (w:World) (e:Ending) (w':World):Prop:=∃ A c,e=.returned (.slice A l.length c)∧RowT w' (OwnP P w.heap.size w') (rowOf encD l) A∧Below w.heap.size w w'
theorem eachD_any (l:List DirT) (A:Option Addr) (c:Nat) (w:World) (P:Nat→Prop) (hP:∀ b,P b→b < w.heap.size) (hz:l.length*40≤140737488355328) (hs:∀ x,x ∈ l→x.2.len*96≤140737488355328) (hR:RowT w P (rowOf encD l) A) :
   Calls Tryz.prog 84 #[.slice A l.length c,.func (.func 85) #[] #[]] w (EachD l P w):=by
 have C:=Hd (clone_dir l A c w P hP hz hR)
 have hn:l.length≤9223372036854775807:=by omega
 clear hz hR
 by_cases hp:0 < l.length
 · go_enter Tryz.func84,Tryz.ntmps84
   go_wp2_with fail
   refine C.out.mono ?_
   rintro e w1 ⟨V,xs,rfl,h1,h2,h3⟩
   obtain ⟨g,c',rfl,hKg,hA⟩:=RowAt.start len_dir h1 h2 hP h3.size rfl hp
   have B1:=Hd h3
   have HA:=Hd hA
   clear h1 h2 h3 hA C
   go_wp2_with fail
   go_loopg [12] l.length (fun gk i wx=>∃ q:Nat,q+gk=l.length∧i=.int .i64 q∧Aside (RowAt encD 2 83 P w.heap.size g l wx∧Below w.heap.size w wx))
   case atStart=>exact ⟨0,by omega,rfl,Blk.Aside.intro ⟨HA.out,B1.out⟩⟩
   case round =>
    obtain ⟨q,hq,rfl,HX⟩:=hrel
    obtain ⟨hA,hb⟩:=HX.out
    have HAX:=Hd hA
    have HBB:=Hd hb
    clear HX hA hb HA
    cases gk with
    | zero =>
      obtain rfl:q=l.length:=by omega
      go_wp2_with fail
      go_ret
      exact ⟨some ⟨g,0,none⟩,c',rfl,HAX.out.row len_dir hKg,HBB.out⟩
    | succ gg =>
      have hqn:q < l.length:=by omega
      have hqn':(q:Int) < (l.length:Int):=by omega
      obtain ⟨x,hx⟩:∃ x,l[q]? = some x:=⟨_,List.getElem?_eq_getElem hqn⟩
      obtain ⟨c0,c1,hT,⟨g0,g1⟩,f0,f1⟩:=eachD_at HAX.out hx
      have hsl:=Hd (hs x (List.mem_of_getElem? hx))
      have HT:=Hd hT
      have HXX:=Hd hx
      have hgl:=HAX.out.lt
      have hso:=HBB.out.size
      obtain ⟨A2,k2,e,_⟩:=dir_cells hT
      simp only [List.cons.injEq,and_true] at e
      obtain ⟨rfl,rfl⟩:=e
      have hC:=Hd (fun o=>owndir_any x (.string x.1) (.slice A2 x.2.len k2) (wr.alloc o) (fun b=>OwnP P w.heap.size wr b∧b ≠ g) (fun b h=>Nat.lt_of_lt_of_le h.1.1 (dbelow_new wr o).size) hsl.out (TS.keep (fun b h=>⟨h,(dbelow_new wr o).block b h.1.1⟩) _ _ HT.out))
      clear hT hx f0 f1
      go_wp2_with fail
      refine (hC.out _).mono ?_
      rintro e w2 ⟨A3,k3,rfl,hT3,hb3⟩
      have hb2:=(dbelow_new wr (.cells #[.string x.1,.slice A2 x.2.len k2] 83)).trans (hb3.mono (by simp))
      have A2':=Hd (HAX.out.low hb2)
      have B2:=Hd (HBB.out.trans (hb2.mono hso))
      have T2:=Hd (TS.keep (P':=fun b=>OwnP P w.heap.size w2 b∧b ≠ g) (fun b h=>⟨by
       rcases h.2 with h1|h1
       · exact ⟨⟨h.1,h1.1.2⟩,h1.2⟩
       · have h4:wr.heap.size+1≤b:=by simpa using h1
         exact ⟨⟨h.1,.inr (by omega)⟩,by omega⟩,rfl⟩) _ _ hT3)
      obtain ⟨e0,e1,_,⟨z0,z1⟩,y0,y1⟩:=eachD_at A2'.out HXX.out
      clear hT3 hb3 hb2 hC g0 g1
      go_wp2_with fail
      go_roundg gg
      case measure=>omega
      case rel=>exact ⟨q+1,by omega,by go_num,Blk.Aside.intro ⟨A2'.out.set len_dir HXX.out T2.out,(B2.out.setCell (p:=⟨g,q*2,none⟩) hKg _).setCell (p:=⟨g,q*2+1,none⟩) hKg _⟩⟩
 · have h0:l.length=0:=by omega
   have HL:=Hd h0
   obtain rfl:l=[]:=List.eq_nil_of_length_eq_zero h0
   clear h0 hp hs hn
   go_enter Tryz.func84,Tryz.ntmps84
   go_wp2_with fail
   refine C.out.mono ?_
   rintro e w1 h1
   obtain ⟨A1,c1,rfl,_,hb1⟩:=cloned_row h1 rfl hP
   have B1:=Hd hb1
   clear h1 hb1 C
   go_wp2_with fail
   go_loopg [12] 0 (fun gk i wx=>gk=0∧i=.int .i64 0∧Below w.heap.size w wx)
   case atStart=>exact ⟨rfl,rfl,B1.out⟩
   case round =>
    obtain ⟨rfl,rfl,hb⟩:=hrel
    have HBB:=Hd hb
    clear hb
    go_wp2_with fail
    go_ret
    exact ⟨A1,c1,rfl,by rw [rowOf];unfold RowT;trivial,HBB.out⟩
theorem fld_cells {w:World} {P:Nat→Prop} {x:FieldT} {cs:List Value} (h:TS w P (encField x) cs) :
  ∃ Ap kp Ad kd,cs=[.string x.name,.slice Ap x.params.length kp,.string x.tn,.int .i64 x.tl,.int .i64 x.tm,.slice Ad x.dirs.length kd]∧(x.name.size≤9223372036854775807∧x.tn.size≤9223372036854775807)∧(x.params.length≤9223372036854775807∧RowT w P (rowOf encVar x.params) Ap)∧x.dirs.length≤9223372036854775807∧RowT w P (rowOf encD x.dirs) Ad:=by
 simp only [encField,TS,TP] at h
 obtain ⟨c0,_,rfl,⟨rfl,h0⟩,c1,_,rfl,⟨Ap,kp,rfl,l1,h1⟩,c2,_,rfl,⟨rfl,h2⟩,c3,_,rfl,⟨rfl,_⟩,c4,_,rfl,⟨rfl,_⟩,c5,_,rfl,⟨Ad,kd,rfl,l5,h5⟩,rfl⟩:=h
 simp only [rowOf_len] at *
 exact ⟨Ap,kp,Ad,kd,rfl,⟨h0,h2⟩,⟨l1,h1⟩,l5,h5⟩
theorem fld_ts {w:World} {P:Nat→Prop} {x:FieldT} {Ap Ad:Option Addr} {kp kd:Nat} (h0:x.name.size≤9223372036854775807∧x.tn.size≤9223372036854775807) (l1:x.params.length≤9223372036854775807) (l5:x.dirs.length≤9223372036854775807) (h1:RowT w P (rowOf encVar x.params) Ap) (h5:RowT w P (rowOf encD x.dirs) Ad) :
  TS w P (encField x) [.string x.name,.slice Ap x.params.length kp,.string x.tn,.int .i64 x.tl,.int .i64 x.tm,.slice Ad x.dirs.length kd]:=by
 simp only [encField,TS,TP]
 exact ⟨_,_,rfl,⟨rfl,h0.1⟩,_,_,rfl,⟨Ap,kp,by rw [rowOf_len],by rw [rowOf_len];exact l1,h1⟩,_,_,rfl,⟨rfl,h0.2⟩,_,_,rfl,⟨rfl,trivial⟩,_,_,rfl,⟨rfl,trivial⟩,_,_,rfl,⟨Ad,kd,by rw [rowOf_len],by rw [rowOf_len];exact l5,h5⟩,rfl⟩
theorem ret_fld {R:Ending→World→Prop} {fn:Func} {a:Act} {W:World} {c0 c1 c2 c3 c4 c5:Value} {p b:Nat} (hf:fn.results=#[.cell p 46]) (h2:a.tmps.getD p undef=.pointer (some ⟨b,0,none⟩)) (hd:a.defers=[])
  (hc:W.heap[b]? = some (.cells #[c0,c1,c2,c3,c4,c5] 46 (0,0))) (hR:R (.returned (.agg #[c0,c1,c2,c3,c4,c5])) W):bodyPost Tryz.prog fn R .ret a W:=by
 have hl:(loadVar 46 ⟨b,0,none⟩).run Tryz.prog W=.ok (.agg #[c0,c1,c2,c3,c4,c5]) W:=
  run_loadVar_row W b 46 46 #[c0,c1,c2,c3,c4,c5] (0,0) _ hc Tryz.underlying46 rfl (by kernel_rfl)
 refine bodyPost_ret ?_ hd hR
 have h2':a.tmps[p]?.getD undef=.pointer (some ⟨b,0,none⟩):=by rw [← h2];simp
 simp [results,hf,h2',asAddr,hl]
theorem six_heap {w:World} {b k:Nat} {c0 c1 c2 c3 c4 c5:Value} (h:k ≠ b):((((((w.setCell ⟨b,0,none⟩ c0).setCell ⟨b,1,none⟩ c1).setCell ⟨b,2,none⟩ c2).setCell ⟨b,3,none⟩ c3).setCell ⟨b,4,none⟩ c4).setCell ⟨b,5,none⟩ c5).heap[k]? = w.heap[k]?:=
 (Below.heap_setCell _ _ _ _ h).trans ((Below.heap_setCell _ _ _ _ h).trans ((Below.heap_setCell _ _ _ _ h).trans ((Below.heap_setCell _ _ _ _ h).trans ((Below.heap_setCell _ _ _ _ h).trans (Below.heap_setCell _ _ _ _ h)))))
def OwnF (x:FieldT) (P:Nat→Prop) (w:World) (e:Ending) (w':World):Prop:=∃ Ap kp Ad kd,e=.returned (.agg #[.string x.name,.slice Ap x.params.length kp,.string x.tn,.int .i64 x.tl,.int .i64 x.tm,.slice Ad x.dirs.length kd]) ∧
 TS w' (OwnP P w.heap.size w') (encField x) [.string x.name,.slice Ap x.params.length kp,.string x.tn,.int .i64 x.tl,.int .i64 x.tm,.slice Ad x.dirs.length kd]∧Below w.heap.size w w'
theorem ownfld_any (x:FieldT) (c0 c1 c2 c3 c4 c5:Value) (w:World) (P:Nat→Prop) (hP:∀ b,P b→b < w.heap.size) (hz:SlimF x) (hT:TS w P (encField x) [c0,c1,c2,c3,c4,c5]) :
  Calls Tryz.prog 43 #[.agg #[c0,c1,c2,c3,c4,c5]] w (OwnF x P w):=by
 obtain ⟨Ap,kp,Ad,kd,e,hn,⟨l1,h1⟩,l5,h5⟩:=fld_cells hT
 simp only [List.cons.injEq,and_true] at e
 obtain ⟨rfl,rfl,rfl,rfl,rfl,rfl⟩:=e
 obtain ⟨n,ps,tn,tl,tm,ds⟩:=x
 have HNL:=Hd (And.intro hn (And.intro l1 l5))
 have C:=Hd (fun (wx:World) (hb:Below w.heap.size w wx)=>clone_par ps Ap kp wx P (fun b h=>Nat.lt_of_lt_of_le (hP b h) hb.size) hz.1 (RowT.keep (fun b h=>⟨h,hb.block b (hP b h)⟩) _ _ h1))
 have D:=Hd (fun (wx:World) (hb:Below w.heap.size w wx)=>eachD_any ds Ad kd wx P (fun b h=>Nat.lt_of_lt_of_le (hP b h) hb.size) hz.2.1 hz.2.2 (RowT.keep (fun b h=>⟨h,hb.block b (hP b h)⟩) _ _ h5))
 have B0:=Hd (fun o o'=>tbl w o o')
 have X0:=Hd (And.intro ((Below.heap_alloc (w.alloc (.cells #[.string n,.slice Ap ps.length kp,.string tn,.int .i64 tl,.int .i64 tm,.slice Ad ds.length kd] 46)) (.cells #[.string ⟨#[]⟩,.slice none 0 0,.string ⟨#[]⟩,.int .i64 0,.int .i64 0,.slice none 0 0] 46) w.heap.size (by simp)).trans (heap_alloc_new w (.cells #[.string n,.slice Ap ps.length kp,.string tn,.int .i64 tl,.int .i64 tm,.slice Ad ds.length kd] 46))) (heap_two w (.cells #[.string n,.slice Ap ps.length kp,.string tn,.int .i64 tl,.int .i64 tm,.slice Ad ds.length kd] 46) (.cells #[.string ⟨#[]⟩,.slice none 0 0,.string ⟨#[]⟩,.int .i64 0,.int .i64 0,.slice none 0 0] 46)))
 clear hz hT hn h1 h5 l1 l5
 go_enter Tryz.func43,Tryz.ntmps43
 go_wp2_with fail
 refine (C.out _ (B0.out _ _)).mono ?_
 rintro e w1 h1
 obtain ⟨A1,k1,rfl,hr1,hb1⟩:=cloned_row h1 (rowOf_len _ _) (fun b h=>Nat.lt_of_lt_of_le (hP b h) (B0.out _ _).size)
 rw [two_size] at hr1
 have x1:=(hb1.block w.heap.size (by simp;omega)).trans X0.out.1
 have x2:=(hb1.block (w.heap.size+1) (by simp)).trans X0.out.2
 have hs1:w.heap.size+2≤w1.heap.size:=by have:=hb1.size;rwa [two_size] at this
 have B1:=Hd ((B0.out _ _).trans (hb1.mono (B0.out _ _).size))
 have R1:=Hd hr1
 have HX:=Hd (And.intro x1 x2)
 obtain ⟨⟨y0,y1,y2,y3,y4,y5⟩,v0,v1,v2,v3,v4,v5⟩:=six_cells x1
 clear h1 hr1 hb1 x1 x2 C X0
 go_upto_region 2 with fail
 clear y0 y1 y2 y3 y4 y5 v0 v1 v2 v3 v4 v5
 have hne0:∀ b,OwnP P (w.heap.size+2) w1 b→b ≠ w.heap.size:=fun b hb=>hb.ne hP (by omega)
 have x1:(w1.setCell ⟨w.heap.size,1,none⟩ (.slice A1 ps.length k1)).heap[w.heap.size]? = some (.cells #[.string n,.slice A1 ps.length k1,.string tn,.int .i64 tl,.int .i64 tm,.slice Ad ds.length kd] 46 (0,0)):=by simp [World.setCell,Array.getElem?_modify,HX.out.1]
 have x2:(w1.setCell ⟨w.heap.size,1,none⟩ (.slice A1 ps.length k1)).heap[w.heap.size+1]? = _:=(Below.heap_setCell _ _ _ _ (Nat.succ_ne_self _)).trans HX.out.2
 have B2:=Hd (B1.out.setCell (p:=⟨w.heap.size,1,none⟩) (Nat.le_refl _) (.slice A1 ps.length k1))
 have R2:=Hd (R1.out.own (w':=w1.setCell ⟨w.heap.size,1,none⟩ (.slice A1 ps.length k1)) (by simp [World.setCell]) (Nat.le_refl _) (fun b hb=>Below.heap_setCell _ _ _ _ (hne0 b hb)))
 have hs2:w.heap.size+2≤(w1.setCell ⟨w.heap.size,1,none⟩ (.slice A1 ps.length k1)).heap.size:=by simpa [World.setCell] using hs1
 generalize w1.setCell ⟨w.heap.size,1,none⟩ (.slice A1 ps.length k1)=wz at x1 x2 B2 R2 hs2 ⊢
 clear R1 B1 hs1 hne0 HX
 obtain ⟨⟨y0,y1,y2,y3,y4,y5⟩,v0,v1,v2,v3,v4,v5⟩:=six_cells x1
 have HX2:=Hd (And.intro x1 x2)
 clear x1 x2
 go_wp2_with fail
 refine (D.out _ B2.out).mono ?_
 rintro e w3 ⟨A3,k3,rfl,hr3,hb3⟩
 have x1:=(hb3.block w.heap.size (by omega)).trans HX2.out.1
 have x2:=(hb3.block (w.heap.size+1) (by omega)).trans HX2.out.2
 have B3:=Hd (B2.out.trans (hb3.mono B2.out.size))
 have R3:=Hd (R2.out.own (w':=w3) hb3.size (Nat.le_refl _) (fun b hb=>hb3.block b hb.1))
 have Q3:=Hd (hr3.own (w':=w3) (K':=w.heap.size+2) (Nat.le_refl _) hs2 (fun b hb=>rfl))
 have hs3:=Nat.le_trans hs2 hb3.size
 have HX:=Hd (And.intro x1 x2)
 clear y0 y1 y2 y3 y4 y5 v0 v1 v2 v3 v4 v5 hr3 hb3 R2 B2 HX2 D
 obtain ⟨⟨y0,y1,y2,y3,y4,y5⟩,v0,v1,v2,v3,v4,v5⟩:=six_cells x1
 clear x1 x2
 go_upto_region 3 with fail
 clear y0 y1 y2 y3 y4 y5 v0 v1 v2 v3 v4 v5
 have hne0:∀ b,OwnP P (w.heap.size+2) w3 b→b ≠ w.heap.size:=fun b hb=>hb.ne hP (by omega)
 have x1:(w3.setCell ⟨w.heap.size,5,none⟩ (.slice A3 ds.length k3)).heap[w.heap.size]? = some (.cells #[.string n,.slice A1 ps.length k1,.string tn,.int .i64 tl,.int .i64 tm,.slice A3 ds.length k3] 46 (0,0)):=by simp [World.setCell,Array.getElem?_modify,HX.out.1]
 have x2:(w3.setCell ⟨w.heap.size,5,none⟩ (.slice A3 ds.length k3)).heap[w.heap.size+1]? = _:=(Below.heap_setCell _ _ _ _ (Nat.succ_ne_self _)).trans HX.out.2
 have B4:=Hd (B3.out.setCell (p:=⟨w.heap.size,5,none⟩) (Nat.le_refl _) (.slice A3 ds.length k3))
 have R4:=Hd (R3.out.own (w':=w3.setCell ⟨w.heap.size,5,none⟩ (.slice A3 ds.length k3)) (by simp [World.setCell]) (Nat.le_refl _) (fun b hb=>Below.heap_setCell _ _ _ _ (hne0 b hb)))
 have Q4:=Hd (Q3.out.own (w':=w3.setCell ⟨w.heap.size,5,none⟩ (.slice A3 ds.length k3)) (by simp [World.setCell]) (Nat.le_refl _) (fun b hb=>Below.heap_setCell _ _ _ _ (hne0 b hb)))
 generalize w3.setCell ⟨w.heap.size,5,none⟩ (.slice A3 ds.length k3)=wy at x1 x2 B4 R4 Q4 ⊢
 clear R3 Q3 B3 hne0 HX hs3
 obtain ⟨⟨y0,y1,y2,y3,y4,y5⟩,_⟩:=six_cells x1
 obtain ⟨⟨z0,z1,z2,z3,z4,z5⟩,v0,v1,v2,v3,v4,v5⟩:=six_cells x2
 have HX:=Hd x2
 clear x1 x2
 go_wp2_with fail
 refine ret_fld rfl rfl rfl (six_set HX.out) ?_
 have hne:∀ b,OwnP P (w.heap.size+2) wy b→b ≠ w.heap.size+1:=fun b hb=>hb.ne (fun b h=>Nat.lt_succ_of_lt (hP b h)) (by omega)
 have hkp:∀ b,OwnP P (w.heap.size+2) wy b→((((((wy.setCell ⟨w.heap.size+1,0,none⟩ (.string n)).setCell ⟨w.heap.size+1,1,none⟩ (.slice A1 ps.length k1)).setCell ⟨w.heap.size+1,2,none⟩ (.string tn)).setCell ⟨w.heap.size+1,3,none⟩ (.int .i64 tl)).setCell ⟨w.heap.size+1,4,none⟩ (.int .i64 tm)).setCell ⟨w.heap.size+1,5,none⟩ (.slice A3 ds.length k3)).heap[b]? = wy.heap[b]?:=fun b hb =>
  six_heap (hne b hb)
 exact ⟨A1,k1,A3,k3,rfl,fld_ts HNL.out.1 HNL.out.2.1 HNL.out.2.2 (R4.out.own (by simp [World.setCell]) (by omega) hkp) (Q4.out.own (by simp [World.setCell]) (by omega) hkp),six_low (b:=w.heap.size+1) B4.out (Nat.le_succ _)⟩
end Go.Proofs.YtaekdfcpbepepaaGreatDoor
