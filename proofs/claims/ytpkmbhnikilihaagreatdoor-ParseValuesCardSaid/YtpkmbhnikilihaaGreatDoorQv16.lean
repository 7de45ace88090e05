/- The landed reader of documents: what its functions promise, and the blocks of their walks. -/
import Derived.Test.YtpkmbhnikilihaaGreatDoorQv15
namespace Go.Proofs.YtpkmbhnikilihaaGreatDoor
open Go.RowKit
def Post {α:Type} (r d:Nat) (w:World) (lay:World→(Nat→Prop)→α→Value→Prop) (R:Except Int (α × List Tok)) (e:Ending) (w':World):Prop:=
 match R with
 | .ok (a,ts')=>(∃ v,e=.returned v∧lay w' (Fresh w w') a v)∧Rd w' r ts' d∧Moved r w w'
 | .error x=>e=PanicE x∧Moved r w w'
def layS {α:Type} (enc:α→TrS) (w:World) (P:Nat→Prop) (a:α) (v:Value):Prop:=∃ cs:List Value,v=.agg cs.toArray∧TS w P (enc a) cs
def layR {α:Type} (enc:α→TrL) (w:World) (P:Nat→Prop) (a:α) (v:Value):Prop:=TP w P (.row (enc a)) v
theorem per {α:Type} {r d:Nat} {w w':World} {lay:World→(Nat→Prop)→α→Value→Prop} {R:Except Int (α × List Tok)} {x:Int} (hR:R=.error x) (m:Moved r w w'):Post r d w lay R (PanicE x) w':=by subst hR;exact ⟨rfl,m⟩
theorem post_ok {α:Type} {r d:Nat} {w w':World} {lay:World→(Nat→Prop)→α→Value→Prop} {R:Except Int (α × List Tok)} {a:α} {ts':List Tok} {v:Value} (hR:R=.ok (a,ts')) (hl:lay w' (Fresh w w') a v) (hr:Rd w' r ts' d) (m:Moved r w w'):Post r d w lay R (.returned v) w':=by subst hR;exact ⟨⟨v,rfl,hl⟩,hr,m⟩
theorem of_err {α:Type} {r d:Nat} {w w':World} {lay:World→(Nat→Prop)→α→Value→Prop} {x:Int} {e:Ending} (h:Post r d w lay (.error x) e w'):e=PanicE x∧Moved r w w':=h
theorem of_ok {α:Type} {r d:Nat} {w w':World} {lay:World→(Nat→Prop)→α→Value→Prop} {a:α} {ts':List Tok} {e:Ending} (h:Post r d w lay (.ok (a,ts')) e w'):(∃ v,e=.returned v∧lay w' (Fresh w w') a v)∧Rd w' r ts' d∧Moved r w w':=h
theorem skip_yes {k:Int} {s:ByteArray} {ts:List Tok} (h:atB k s ts=true):skipT k s ts=ts.tail:=by unfold skipT;rw [if_pos h]
theorem skip_no {k:Int} {s:ByteArray} {ts:List Tok} (h:atB k s ts=false):skipT k s ts=ts:=by unfold skipT;rw [h];rfl
theorem TS.nil (w:World) (P:Nat→Prop):TS w P .nil []:=by unfold TS;rfl
theorem TS.str {w:World} {P:Nat→Prop} {s:ByteArray} {t:TrS} {cs:List Value} (hs:s.size≤9000) (h:TS w P t cs):TS w P (.cons (.one (.string s)) t) (.string s :: cs):=by
 rw [TS];exact ⟨_,_,rfl,by unfold TP;exact ⟨rfl,by show s.size≤_;omega⟩,h⟩
theorem TS.int {w:World} {P:Nat→Prop} {z:Int} {t:TrS} {cs:List Value} (h:TS w P t cs):TS w P (.cons (.one (.int .i64 z)) t) (.int .i64 z :: cs):=by
 rw [TS];exact ⟨_,_,rfl,by unfold TP;exact ⟨rfl,trivial⟩,h⟩
theorem TS.bool {w:World} {P:Nat→Prop} {b:Bool} {t:TrS} {cs:List Value} (h:TS w P t cs):TS w P (.cons (.one (.bool b)) t) (.bool b :: cs):=by
 rw [TS];exact ⟨_,_,rfl,by unfold TP;exact ⟨rfl,trivial⟩,h⟩
theorem TS.row {w:World} {P:Nat→Prop} {l:TrL} {c:Value} {t:TrS} {cs:List Value} (hl:TP w P (.row l) c) (h:TS w P t cs):TS w P (.cons (.row l) t) (c :: cs):=by
 rw [TS];exact ⟨_,_,rfl,hl,h⟩
theorem TP.none (w:World) (P:Nat→Prop):TP w P (.row .nil) (.slice none 0 0):=by
 unfold TP;exact ⟨_,_,rfl,Nat.zero_le _,by unfold RowT;trivial⟩
theorem row_open {α:Type} {enc:α→TrL} {w:World} {P:Nat→Prop} {a:α} {v:Value} (h:layR enc w P a v):∃ A c,v=.slice A (enc a).len c∧TP w P (.row (enc a)) (.slice A (enc a).len c):=by
 have h0:=h
 unfold layR TP at h0
 obtain ⟨A,c,rfl,_⟩:=h0
 exact ⟨A,c,rfl,h⟩
def setAll (W:World) (b:Nat):Nat→List Value→World
 | _,[]=>W
 | i,x :: t=>setAll (W.setCell ⟨b,i,none⟩ x) b (i+1) t
theorem setAll_size (b:Nat):∀ (xs:List Value) (i:Nat) (W:World),(setAll W b i xs).heap.size=W.heap.size
 | [],_,_=>rfl
 | x :: t,i,W=>by rw [setAll,setAll_size b t];simp [World.setCell]
theorem setAll_other {b k:Nat} (hk:k ≠ b):∀ (xs:List Value) (i:Nat) (W:World),(setAll W b i xs).heap[k]? = W.heap[k]?
 | [],_,_=>rfl
 | x :: t,i,W=>by rw [setAll,setAll_other hk t,Below.heap_setCell _ _ _ _ hk]
theorem setAll_heap {b:Nat} {t:TypeId} : ∀ (xs:List Value) (pre:List Value) (ys:List Value) (W:World),ys.length=xs.length→W.heap[b]? = some (.cells (pre++ys).toArray t (0,0))→(setAll W b pre.length xs).heap[b]? = some (.cells (pre++xs).toArray t (0,0))
 | [],pre,ys,W,hl,h=>by
   have:ys=[]:=List.eq_nil_of_length_eq_zero hl
   subst this
   exact h
 | x :: xs,pre,ys,W,hl,h=>by
   cases ys with
   | nil=>cases hl
   | cons y ys =>
     rw [setAll]
     have h2:=heap_setCell_same W b pre.length _ t x h
     have e:((pre++y :: ys).toArray.setIfInBounds pre.length x)=((pre++[x])++ys).toArray:=by
      simp
     rw [e] at h2
     have:=setAll_heap xs (pre++[x]) ys (W.setCell ⟨b,pre.length,none⟩ x) (by simpa using hl) h2
     rw [List.length_append,List.length_singleton] at this
     rw [this];simp
theorem setAll_row {b:Nat} {t:TypeId} {xs ys:List Value} {W:World} (hl:ys.length=xs.length) (h:W.heap[b]? = some (.cells ys.toArray t (0,0))):(setAll W b 0 xs).heap[b]? = some (.cells xs.toArray t (0,0)):=
 setAll_heap xs [] ys W hl h
theorem Moved.setAll {r b:Nat} {w:World} (hb:w.heap.size≤b):∀ (xs:List Value) (i:Nat) (W:World),Moved r w W→Moved r w (setAll W b i xs)
 | [],_,_,h=>h
 | x :: t,i,W,h=>by rw [Proofs.YtpkmbhnikilihaaGreatDoor.setAll];exact Moved.setAll hb t _ _ (h.put hb)
theorem Rd.setAll {r b:Nat} {ts:List Tok} {d:Nat} (hb:r < b):∀ (xs:List Value) (i:Nat) (W:World),Rd W r ts d→Rd (setAll W b i xs) r ts d
 | [],_,_,h=>h
 | x :: t,i,W,h=>by rw [Proofs.YtpkmbhnikilihaaGreatDoor.setAll];exact Rd.setAll hb t _ _ (h.set hb)
theorem below_setAll {B b:Nat} {W:World} (hb:B≤b):∀ (xs:List Value) (i:Nat) (W':World),Below B W W'→Below B W (setAll W' b i xs)
 | [],_,_,h=>h
 | x :: t,i,W',h=>by rw [Proofs.YtpkmbhnikilihaaGreatDoor.setAll];exact below_setAll hb t _ _ (h.setCell (p:=⟨b,i,none⟩) hb x)
structure S0 (w:World) (r:Nat) (W:World) (o:Obj) (ts:List Tok) (d:Nat):Prop where
 res:W.heap[w.heap.size]? = some o
 mv:Moved r w W
 hr:r < w.heap.size
 rd:Rd W r ts d
 k:KRd r W
theorem S0.lt {w:World} {r:Nat} {W:World} {o:Obj} {ts:List Tok} {d:Nat} (h:S0 w r W o ts d):w.heap.size < W.heap.size:=(Array.getElem?_eq_some_iff.1 h.res).1
theorem S0.start {w:World} {r:Nat} {ts:List Tok} {d:Nat} (hR:Rd w r ts d) (hK:KRd r w) (cs:Array Value) (t:TypeId):S0 w r (w.alloc (.cells cs t)) (.cells cs t (0,0)) ts d:=
 ⟨heap_alloc_new _ _,Moved.of_below (blw _ _),hR.lt,hR.below (blw _ _),hK.moved (Moved.of_below (blw _ _))⟩
theorem S0.next {w:World} {r:Nat} {W W':World} {o:Obj} {ts ts':List Tok} {d d':Nat} (h:S0 w r W o ts d) (rd:Rd W' r ts' d') (m:Moved r W W'):S0 w r W' o ts' d':=
 ⟨m.keep h.res (by have:=h.hr;omega),h.mv.trans m,h.hr,rd,h.k.moved m⟩
structure S1 (w:World) (r:Nat) (W:World) (o:Obj) (b:Nat) (o1:Obj) (ts:List Tok) (d:Nat):Prop where
 res:W.heap[w.heap.size]? = some o
 loc:W.heap[b]? = some o1
 bl:w.heap.size < b
 mv:Moved r w W
 hr:r < w.heap.size
 rd:Rd W r ts d
 k:KRd r W
theorem S1.blt {w:World} {r:Nat} {W:World} {o:Obj} {b:Nat} {o1:Obj} {ts:List Tok} {d:Nat} (h:S1 w r W o b o1 ts d):b < W.heap.size:=(Array.getElem?_eq_some_iff.1 h.loc).1
theorem S1.rb {w:World} {r:Nat} {W:World} {o:Obj} {b:Nat} {o1:Obj} {ts:List Tok} {d:Nat} (h:S1 w r W o b o1 ts d):r < b:=Nat.lt_trans h.hr h.bl
theorem S1.of {w:World} {r:Nat} {W W':World} {o o1:Obj} {ts:List Tok} {d:Nat} (h:S0 w r W o ts d) (hl:W'.heap[W.heap.size]? = some o1) (hb:Below W.heap.size W W'):S1 w r W' o W.heap.size o1 ts d:=
 ⟨(hb.block _ h.lt).trans h.res,hl,h.lt,h.mv.trans (Moved.of_below hb),h.hr,h.rd.below hb,h.k.moved (Moved.of_below hb)⟩
theorem S1.make {w:World} {r:Nat} {W:World} {o:Obj} {ts:List Tok} {d:Nat} (h:S0 w r W o ts d) (cs:Array Value) (t:TypeId):S1 w r (W.alloc (.cells cs t)) o W.heap.size (.cells cs t (0,0)) ts d:=
 S1.of h (heap_alloc_new _ _) (blw _ _)
theorem S1.next {w:World} {r:Nat} {W W':World} {o:Obj} {b:Nat} {o1:Obj} {ts ts':List Tok} {d d':Nat} (h:S1 w r W o b o1 ts d) (rd:Rd W' r ts' d') (m:Moved r W W'):S1 w r W' o b o1 ts' d':=
 ⟨m.keep h.res (by have:=h.hr;omega),m.keep h.loc (by have:=h.rb;omega),h.bl,h.mv.trans m,h.hr,rd,h.k.moved m⟩
theorem S1.put {w:World} {r:Nat} {W:World} {o:Obj} {b:Nat} {cs:Array Value} {t:TypeId} {ts:List Tok} {d:Nat} (h:S1 w r W o b (.cells cs t (0,0)) ts d) (i:Nat) (v:Value):S1 w r (W.setCell ⟨b,i,none⟩ v) o b (.cells (cs.setIfInBounds i v) t (0,0)) ts d:=
 ⟨set_other' h.res (by have:=h.bl;omega),heap_setCell_same _ _ _ _ _ _ h.loc,h.bl,h.mv.put (Nat.le_of_lt h.bl),h.hr,h.rd.set h.rb,h.k.set h.rb⟩
def Ov (b:Nat) (W:World) (x:Tr) (c:Value):Prop:=TP W (fun k=>b < k∧k < W.heap.size) x c
def OvS (b:Nat) (W:World) (x:TrS) (c:List Value):Prop:=TS W (fun k=>b < k∧k < W.heap.size) x c
theorem Ov.of {b:Nat} {W W':World} {x:Tr} {c:Value} (h:TP W' (Fresh W W') x c) (hb:b < W.heap.size):Ov b W' x c:=TP.keep (fun _ hk=>⟨⟨Nat.lt_of_lt_of_le hb hk.1,hk.2⟩,rfl⟩) _ _ h
theorem OvS.of {b:Nat} {W W':World} {x:TrS} {c:List Value} (h:TS W' (Fresh W W') x c) (hb:b < W.heap.size):OvS b W' x c:=TS.keep (fun _ hk=>⟨⟨Nat.lt_of_lt_of_le hb hk.1,hk.2⟩,rfl⟩) _ _ h
theorem Ov.next {b r:Nat} {W W':World} {x:Tr} {c:Value} (h:Ov b W x c) (m:Moved r W W') (hr:r < b):Ov b W' x c:=TP.keep (fun k hk=>⟨⟨hk.1,Nat.lt_of_lt_of_le hk.2 m.size⟩,m.block k hk.2 (fun e=>by have:=hk.1;injection e;omega)⟩) _ _ h
theorem OvS.next {b r:Nat} {W W':World} {x:TrS} {c:List Value} (h:OvS b W x c) (m:Moved r W W') (hr:r < b):OvS b W' x c:=TS.keep (fun k hk=>⟨⟨hk.1,Nat.lt_of_lt_of_le hk.2 m.size⟩,m.block k hk.2 (fun e=>by have:=hk.1;injection e;omega)⟩) _ _ h
theorem Ov.put {b i c0:Nat} {W:World} {x:Tr} {c v:Value} (h:Ov b W x c) (hb:c0≤b):Ov b (W.setCell ⟨c0,i,none⟩ v) x c:=TP.keep (fun k hk=>⟨⟨hk.1,by have:=hk.2;simpa [World.setCell] using this⟩,Below.heap_setCell _ _ _ _ (show k ≠ c0 by have:=hk.1;omega)⟩) _ _ h
theorem OvS.put {b i c0:Nat} {W:World} {x:TrS} {c:List Value} {v:Value} (h:OvS b W x c) (hb:c0≤b):OvS b (W.setCell ⟨c0,i,none⟩ v) x c:=TS.keep (fun k hk=>⟨⟨hk.1,by have:=hk.2;simpa [World.setCell] using this⟩,Below.heap_setCell _ _ _ _ (show k ≠ c0 by have:=hk.1;omega)⟩) _ _ h
theorem Ov.fin {b:Nat} {w W:World} {x:Tr} {c:Value} (h:Ov b W x c) (hb:w.heap.size≤b) (xs:List Value):TP (setAll W w.heap.size 0 xs) (Fresh w (setAll W w.heap.size 0 xs)) x c:=TP.keep (fun k hk=>⟨⟨by have:=hk.1;omega,by rw [setAll_size];exact hk.2⟩,setAll_other (by have:=hk.1;omega) _ _ _⟩) _ _ h
theorem OvS.fin {b:Nat} {w W:World} {x:TrS} {c:List Value} (h:OvS b W x c) (hb:w.heap.size≤b) (xs:List Value):TS (setAll W w.heap.size 0 xs) (Fresh w (setAll W w.heap.size 0 xs)) x c:=TS.keep (fun k hk=>⟨⟨by have:=hk.1;omega,by rw [setAll_size];exact hk.2⟩,setAll_other (by have:=hk.1;omega) _ _ _⟩) _ _ h
theorem S1.fin {w:World} {r:Nat} {W:World} {ys:List Value} {t:TypeId} {b:Nat} {o1:Obj} {ts:List Tok} {d:Nat} (h:S1 w r W (.cells ys.toArray t (0,0)) b o1 ts d) (xs:List Value) (hl:ys.length=xs.length) :
  (setAll W w.heap.size 0 xs).heap[w.heap.size]? = some (.cells xs.toArray t (0,0))∧Rd (setAll W w.heap.size 0 xs) r ts d∧Moved r w (setAll W w.heap.size 0 xs):=
 ⟨setAll_row hl h.res,h.rd.setAll h.hr _ _ _,Moved.setAll (Nat.le_refl _) _ _ _ h.mv⟩
theorem S0.fin {w:World} {r:Nat} {W:World} {ys:List Value} {t:TypeId} {ts:List Tok} {d:Nat} (h:S0 w r W (.cells ys.toArray t (0,0)) ts d) (xs:List Value) (hl:ys.length=xs.length) :
  (setAll W w.heap.size 0 xs).heap[w.heap.size]? = some (.cells xs.toArray t (0,0))∧Rd (setAll W w.heap.size 0 xs) r ts d∧Moved r w (setAll W w.heap.size 0 xs):=
 ⟨setAll_row hl h.res,h.rd.setAll h.hr _ _ _,Moved.setAll (Nat.le_refl _) _ _ _ h.mv⟩
theorem ret_st {R:Ending→World→Prop} {fn:Func} {a:Act} {W:World} {cs:List Value} {ty:TypeId} {p b:Nat} {ds:TypeDesc} (hf:fn.results=#[.cell p ty]) (h2:a.tmps.getD p undef=.pointer (some ⟨b,0,none⟩)) (hd:a.defers=[])
  (hc:W.heap[b]? = some (.cells cs.toArray ty (0,0))) (hu:Tryz.prog.underlying ty=some ds) (hs:∃ fs,ds=.struct fs) (hi:(Tryz.prog.info? ty).map (·.size)=some cs.length) (hR:R (.returned (.agg cs.toArray)) W):bodyPost Tryz.prog fn R .ret a W:=by
 obtain ⟨fs,rfl⟩:=hs
 have hl:(loadVar ty ⟨b,0,none⟩).run Tryz.prog W=.ok (.agg cs.toArray) W:=run_loadVar_row W b ty ty cs.toArray (0,0) _ hc hu rfl (by rw [hi];simp)
 refine bodyPost_ret ?_ hd hR
 have h2':a.tmps[p]?.getD undef=.pointer (some ⟨b,0,none⟩):=by rw [← h2];simp
 simp [results,hf,h2',asAddr,hl]
theorem four_cells {w:World} {b:Nat} {z0 z1 z2 z3:Value} {t:TypeId} (h:w.heap[b]? = some (.cells #[z0,z1,z2,z3] t (0,0))):w.cell? ⟨b,0,none⟩=some z0∧w.cell? ⟨b,1,none⟩=some z1∧w.cell? ⟨b,2,none⟩=some z2∧w.cell? ⟨b,3,none⟩=some z3∧∀ i,w.frozen? ⟨b,i,none⟩=false:=by
 refine ⟨?_,?_,?_,?_,fun i=>?_⟩
 all_goals first|(simp only [World.cell?,h];rfl)|simp [World.frozen?,h]
theorem svc {w:World} {b:Nat} {z0 z1 z2 z3 z4 z5 z6:Value} {t:TypeId} (h:w.heap[b]? = some (.cells #[z0,z1,z2,z3,z4,z5,z6] t (0,0))):w.cell? ⟨b,0,none⟩=some z0∧w.cell? ⟨b,1,none⟩=some z1∧w.cell? ⟨b,2,none⟩=some z2∧w.cell? ⟨b,3,none⟩=some z3∧w.cell? ⟨b,4,none⟩=some z4∧w.cell? ⟨b,5,none⟩=some z5∧w.cell? ⟨b,6,none⟩=some z6∧∀ i,w.frozen? ⟨b,i,none⟩=false:=by
 refine ⟨?_,?_,?_,?_,?_,?_,?_,fun i=>?_⟩
 all_goals first|(simp only [World.cell?,h];rfl)|simp [World.frozen?,h]
theorem ten_cells {w:World} {b:Nat} {z0 z1 z2 z3 z4 z5 z6 z7 z8 z9:Value} {t:TypeId} (h:w.heap[b]? = some (.cells #[z0,z1,z2,z3,z4,z5,z6,z7,z8,z9] t (0,0))):w.cell? ⟨b,0,none⟩=some z0∧w.cell? ⟨b,1,none⟩=some z1∧w.cell? ⟨b,2,none⟩=some z2∧w.cell? ⟨b,3,none⟩=some z3∧w.cell? ⟨b,4,none⟩=some z4∧w.cell? ⟨b,5,none⟩=some z5∧w.cell? ⟨b,6,none⟩=some z6∧w.cell? ⟨b,7,none⟩=some z7∧w.cell? ⟨b,8,none⟩=some z8∧w.cell? ⟨b,9,none⟩=some z9∧∀ i,w.frozen? ⟨b,i,none⟩=false:=by
 refine ⟨?_,?_,?_,?_,?_,?_,?_,?_,?_,?_,fun i=>?_⟩
 all_goals first|(simp only [World.cell?,h];rfl)|simp [World.frozen?,h]
theorem ptc {w:World} {b:Nat} {z0 z1:Value} {t:TypeId} (h:w.heap[b]? = some (.cells #[z0,z1] t (0,0))):w.cell? ⟨b,0,none⟩=some z0∧w.cell? ⟨b,1,none⟩=some z1∧∀ i,w.frozen? ⟨b,i,none⟩=false:=by
 refine ⟨?_,?_,fun i=>?_⟩
 all_goals first|(simp only [World.cell?,h];rfl)|simp [World.frozen?,h]
theorem val_open {w:World} {P:Nat→Prop} {a:VT} {v:Value} (h:layS encV w P a v):∃ (i0:Int) (i1:Int) (s2:ByteArray) (A3:Option Addr) (n3 c3:Nat) (A4:Option Addr) (n4 c4:Nat),v=.agg #[.int .i64 i0,.int .i64 i1,.string s2,.slice A3 n3 c3,.slice A4 n4 c4]∧TS w P (encV a) [.int .i64 i0,.int .i64 i1,.string s2,.slice A3 n3 c3,.slice A4 n4 c4]:=by
 obtain ⟨cs,rfl,h⟩:=h
 have h0:=h
 obtain ⟨k,n,s,l,m⟩:=a
 rw [encV] at h0
 simp only [TS,TP] at h0
 obtain ⟨c0,_,rfl,⟨rfl,_⟩,c1,_,rfl,⟨rfl,_⟩,c2,_,rfl,⟨rfl,_⟩,c3,_,rfl,⟨A3,k3,rfl,_,_⟩,c4,_,rfl,⟨A4,k4,rfl,_,_⟩,rfl⟩:=h0
 exact ⟨_,_,_,_,_,_,_,_,_,rfl,h⟩
theorem mem_open {w:World} {P:Nat→Prop} {a:ByteArray × VT} {v:Value} (h:layS (fun p=>encMem p.1 p.2) w P a v):∃ (s0:ByteArray) (i1:Int) (i2:Int) (s3:ByteArray) (A4:Option Addr) (n4 c4:Nat) (A5:Option Addr) (n5 c5:Nat),v=.agg #[.string s0,.int .i64 i1,.int .i64 i2,.string s3,.slice A4 n4 c4,.slice A5 n5 c5]∧TS w P ((fun p=>encMem p.1 p.2) a) [.string s0,.int .i64 i1,.int .i64 i2,.string s3,.slice A4 n4 c4,.slice A5 n5 c5]:=by
 obtain ⟨cs,rfl,h⟩:=h
 have h0:=h
 obtain ⟨nm,k,n,s,l,m⟩:=a
 simp only [encMem,encV,TS,TP] at h0
 obtain ⟨c0,_,rfl,⟨rfl,_⟩,c1,_,rfl,⟨rfl,_⟩,c2,_,rfl,⟨rfl,_⟩,c3,_,rfl,⟨rfl,_⟩,c4,_,rfl,⟨A4,k4,rfl,_,_⟩,c5,_,rfl,⟨A5,k5,rfl,_,_⟩,rfl⟩:=h0
 exact ⟨_,_,_,_,_,_,_,_,_,_,rfl,h⟩
theorem sel_open {w:World} {P:Nat→Prop} {a:SelT} {v:Value} (h:layS encS w P a v):∃ (i0:Int) (s1:ByteArray) (s2:ByteArray) (A3:Option Addr) (n3 c3:Nat) (A4:Option Addr) (n4 c4:Nat) (s5:ByteArray) (A6:Option Addr) (n6 c6:Nat),v=.agg #[.int .i64 i0,.string s1,.string s2,.slice A3 n3 c3,.slice A4 n4 c4,.string s5,.slice A6 n6 c6]∧TS w P (encS a) [.int .i64 i0,.string s1,.string s2,.slice A3 n3 c3,.slice A4 n4 c4,.string s5,.slice A6 n6 c6]:=by
 obtain ⟨cs,rfl,h⟩:=h
 have h0:=h
 obtain ⟨k,a,n,g,d,o,s⟩:=a
 rw [encS] at h0
 simp only [TS,TP] at h0
 obtain ⟨c0,_,rfl,⟨rfl,_⟩,c1,_,rfl,⟨rfl,_⟩,c2,_,rfl,⟨rfl,_⟩,c3,_,rfl,⟨A3,k3,rfl,_,_⟩,c4,_,rfl,⟨A4,k4,rfl,_,_⟩,c5,_,rfl,⟨rfl,_⟩,c6,_,rfl,⟨A6,k6,rfl,_,_⟩,rfl⟩:=h0
 exact ⟨_,_,_,_,_,_,_,_,_,_,_,_,_,rfl,h⟩
theorem var_open {w:World} {P:Nat→Prop} {a:VarT} {v:Value} (h:layS encVar w P a v):∃ (s0:ByteArray) (s1:ByteArray) (i2:Int) (i3:Int) (b4:Bool) (i5:Int) (i6:Int) (s7:ByteArray) (A8:Option Addr) (n8 c8:Nat) (A9:Option Addr) (n9 c9:Nat),v=.agg #[.string s0,.string s1,.int .i64 i2,.int .i64 i3,.bool b4,.int .i64 i5,.int .i64 i6,.string s7,.slice A8 n8 c8,.slice A9 n9 c9]∧TS w P (encVar a) [.string s0,.string s1,.int .i64 i2,.int .i64 i3,.bool b4,.int .i64 i5,.int .i64 i6,.string s7,.slice A8 n8 c8,.slice A9 n9 c9]:=by
 obtain ⟨cs,rfl,h⟩:=h
 have h0:=h
 obtain ⟨n,tn,tl,tm,has,k,nn,s,l,m⟩:=a
 unfold encVar at h0
 rw [encV] at h0
 simp only [TS,TP] at h0
 obtain ⟨c0,_,rfl,⟨rfl,_⟩,c1,_,rfl,⟨rfl,_⟩,c2,_,rfl,⟨rfl,_⟩,c3,_,rfl,⟨rfl,_⟩,c4,_,rfl,⟨rfl,_⟩,c5,_,rfl,⟨rfl,_⟩,c6,_,rfl,⟨rfl,_⟩,c7,_,rfl,⟨rfl,_⟩,c8,_,rfl,⟨A8,k8,rfl,_,_⟩,c9,_,rfl,⟨A9,k9,rfl,_,_⟩,rfl⟩:=h0
 exact ⟨_,_,_,_,_,_,_,_,_,_,_,_,_,_,rfl,h⟩
theorem op_open {w:World} {P:Nat→Prop} {a:OpT} {v:Value} (h:layS encOp w P a v):∃ (i0:Int) (s1:ByteArray) (A2:Option Addr) (n2 c2:Nat) (A3:Option Addr) (n3 c3:Nat) (A4:Option Addr) (n4 c4:Nat),v=.agg #[.int .i64 i0,.string s1,.slice A2 n2 c2,.slice A3 n3 c3,.slice A4 n4 c4]∧TS w P (encOp a) [.int .i64 i0,.string s1,.slice A2 n2 c2,.slice A3 n3 c3,.slice A4 n4 c4]:=by
 obtain ⟨cs,rfl,h⟩:=h
 have h0:=h
 unfold encOp at h0
 simp only [TS,TP] at h0
 obtain ⟨c0,_,rfl,⟨rfl,_⟩,c1,_,rfl,⟨rfl,_⟩,c2,_,rfl,⟨A2,k2,rfl,_,_⟩,c3,_,rfl,⟨A3,k3,rfl,_,_⟩,c4,_,rfl,⟨A4,k4,rfl,_,_⟩,rfl⟩:=h0
 exact ⟨_,_,_,_,_,_,_,_,_,_,_,rfl,h⟩
theorem frag_open {w:World} {P:Nat→Prop} {a:FragT} {v:Value} (h:layS encF w P a v):∃ (s0:ByteArray) (s1:ByteArray) (A2:Option Addr) (n2 c2:Nat) (A3:Option Addr) (n3 c3:Nat),v=.agg #[.string s0,.string s1,.slice A2 n2 c2,.slice A3 n3 c3]∧TS w P (encF a) [.string s0,.string s1,.slice A2 n2 c2,.slice A3 n3 c3]:=by
 obtain ⟨cs,rfl,h⟩:=h
 have h0:=h
 unfold encF at h0
 simp only [TS,TP] at h0
 obtain ⟨c0,_,rfl,⟨rfl,_⟩,c1,_,rfl,⟨rfl,_⟩,c2,_,rfl,⟨A2,k2,rfl,_,_⟩,c3,_,rfl,⟨A3,k3,rfl,_,_⟩,rfl⟩:=h0
 exact ⟨_,_,_,_,_,_,_,_,rfl,h⟩
theorem val_post (fx:Bool) (d:Nat) (ts:List Tok) (r:Nat) (w:World) (hG:GoodD ts) (hd:d≤16) (hR:Rd w r ts d) (hK:KRd r w):Calls Tryz.prog 49 #[.pointer (some ⟨r,0,none⟩),.bool fx] w (Post r d w (layS encV) (valD fx d ts)):=by
 refine (value_any (2*ts.length+1) fx d ts r w (Nat.le_refl _) hG.1 hd hR hK).mono ?_
 intro e w' h
 unfold valD
 cases hv:valR (2*ts.length+1) fx d ts with
 | error x=>rw [hv] at h;exact h
 | ok p =>
   obtain ⟨v,ts'⟩:=p
   rw [hv] at h
   obtain ⟨⟨d0,d1,d2,d3,d4,rfl,hvp⟩,h1,_,h3⟩:=h
   exact ⟨⟨_,rfl,[d0,d1,d2,d3,d4],rfl,vp_ts _ _ _ _ _ _ hvp⟩,h1,h3⟩
theorem mem_post (fx:Bool) (d:Nat) (ts:List Tok) (r:Nat) (w:World) (hG:GoodD ts) (hd:d≤16) (hR:Rd w r ts d) (hK:KRd r w):Calls Tryz.prog 187 #[.pointer (some ⟨r,0,none⟩),.bool fx] w (Post r d w (layS (fun p=>encMem p.1 p.2)) (memD fx d ts)):=by
 refine (member_any (2*ts.length+1) fx d ts r w (Nat.le_refl _) hG.1 hd hR hK).mono ?_
 intro e w' h
 unfold memD
 cases hv:memR (2*ts.length+1) fx d ts with
 | error x=>rw [hv] at h;exact h
 | ok p =>
   obtain ⟨⟨nm,v⟩,ts'⟩:=p
   rw [hv] at h
   obtain ⟨⟨d0,d1,d2,d3,d4,rfl,hs,hvp⟩,h1,_,h3⟩:=h
   exact ⟨⟨_,rfl,[.string nm,d0,d1,d2,d3,d4],rfl,TS.str hs (vp_ts _ _ _ _ _ _ hvp)⟩,h1,h3⟩
end Go.Proofs.YtpkmbhnikilihaaGreatDoor
