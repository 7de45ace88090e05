/- The landed reader of documents: what its functions promise, and the blocks of their walks. -/
import Derived.Test.YtkacnnhdfkpenaaGreatDoorSj18
import Derived.Defers
import Derived.Recover
import Derived.Laws.EntriesVeiled
set_option maxRecDepth 100000
set_option maxHeartbeats 4000000
namespace Go.Proofs.YtkacnnhdfkpenaaGreatDoor
open Go.RowKit
def Post {α:Type} (r d:Nat) (w:World) (lay:World→(Nat→Prop)→α→Value→Prop) (R:Except Int (α × List Tok)) (e:Ending) (w':World):Prop:=
 match R with
 | .ok (a,ts')=>(∃ v,e=.returned v∧lay w' (Fresh w w') a v)∧Rd w' r ts' d∧Moved r w w'
 | .error x=>e=PanicE x∧Moved r w w'
def layS {α:Type} (enc:α→TrS) (w:World) (P:Nat→Prop) (a:α) (v:Value):Prop:=∃ cs:List Value,v=.agg cs.toArray∧TS w P (enc a) cs
def layR {α:Type} (enc:α→TrL) (w:World) (P:Nat→Prop) (a:α) (v:Value):Prop:=TP w P (.row (enc a)) v
theorem per {α:Type} {r d:Nat} {w w':World} {lay:World→(Nat→Prop)→α→Value→Prop} {R:Except Int (α × List Tok)} {x:Int} (hR:R=.error x) (m:Moved r w w'):Post r d w lay R (PanicE x) w':=by subst hR;exact ⟨rfl,m⟩
theorem post_ok {α:Type} {r d:Nat} {w w':World} {lay:World→(Nat→Prop)→α→Value→Prop} {R:Except Int (α × List Tok)} {a:α} {ts':List Tok} {v:Value} (hR:R=.ok (a,ts')) (hl:lay w' (Fresh w w') a v) (hr:Rd w' r ts' d) (m:Moved r w w'):Post r d w lay R (.returned v) w':=by subst hR;exact ⟨⟨v,rfl,hl⟩,hr,m⟩
theorem of_err {α:Type} {r d:Nat} {w w':World} {lay:World→(Nat→Prop)→α→Value→Prop} {x:Int} {e:Ending} (h:Post r d w lay (.error x) e w'):e=PanicE x∧Moved r w w':=h
theorem of_ok {α:Type} {r d:Nat} {w w':World} {lay:World→(Nat→Prop)→α→Value→Prop} {a:α} {ts':List Tok} {e:Ending} (h:Post r d w lay (.ok (a,ts')) e w'):(∃ v,e=.returned v∧lay w' (Fresh w w') a v)∧Rd w' r ts' d∧Moved r w w':=h
theorem skip_yes {k:Int} {s:ByteArray} {ts:List Tok} (h:atB k s ts=true):skipT k s ts=ts.tail:=by unfold skipT;rw [if_pos h]
theorem skip_no {k:Int} {s:ByteArray} {ts:List Tok} (h:atB k s ts=false):skipT k s ts=ts:=by unfold skipT;rw [h];rfl
theorem TS.nil (w:World) (P:Nat→Prop):TS w P .nil []:=by unfold TS;rfl
theorem TS.str {w:World} {P:Nat→Prop} {s:ByteArray} {t:TrS} {cs:List Value} (hs:s.size≤9000) (h:TS w P t cs):TS w P (.cons (.one (.string s)) t) (.string s :: cs):=by
 rw [TS];exact ⟨_,_,rfl,by unfold TP;exact ⟨rfl,by show s.size≤_;omega⟩,h⟩
theorem TS.int {w:World} {P:Nat→Prop} {z:Int} {t:TrS} {cs:List Value} (h:TS w P t cs):TS w P (.cons (.one (.int .i64 z)) t) (.int .i64 z :: cs):=by
 rw [TS];exact ⟨_,_,rfl,by unfold TP;exact ⟨rfl,trivial⟩,h⟩
theorem TS.bool {w:World} {P:Nat→Prop} {b:Bool} {t:TrS} {cs:List Value} (h:TS w P t cs):TS w P (.cons (.one (.bool b)) t) (.bool b :: cs):=by
 rw [TS];exact ⟨_,_,rfl,by unfold TP;exact ⟨rfl,trivial⟩,h⟩
theorem TS.row {w:World} {P:Nat→Prop} {l:TrL} {c:Value} {t:TrS} {cs:List Value} (hl:TP w P (.row l) c) (h:TS w P t cs):TS w P (.cons (.row l) t) (c :: cs):=by
 rw [TS];exact ⟨_,_,rfl,hl,h⟩
theorem TP.none (w:World) (P:Nat→Prop):TP w P (.row .nil) (.slice none 0 0):=by
 unfold TP;exact ⟨_,_,rfl,Nat.zero_le _,by unfold RowT;trivial⟩
theorem row_open {α:Type} {enc:α→TrL} {w:World} {P:Nat→Prop} {a:α} {v:Value} (h:layR enc w P a v):∃ A c,v=.slice A (enc a).len c∧TP w P (.row (enc a)) (.slice A (enc a).len c):=by
 have h0:=h
 unfold layR TP at h0
 obtain ⟨A,c,rfl,_⟩:=h0
 exact ⟨A,c,rfl,h⟩
def setAll (W:World) (b:Nat):Nat→List Value→World
 | _,[]=>W
 | i,x :: t=>setAll (W.setCell ⟨b,i,none⟩ x) b (i+1) t
theorem setAll_size (b:Nat):∀ (xs:List Value) (i:Nat) (W:World),(setAll W b i xs).heap.size=W.heap.size
 | [],_,_=>rfl
 | x :: t,i,W=>by rw [setAll,setAll_size b t];simp [World.setCell]
theorem setAll_other {b k:Nat} (hk:k ≠ b):∀ (xs:List Value) (i:Nat) (W:World),(setAll W b i xs).heap[k]? = W.heap[k]?
 | [],_,_=>rfl
 | x :: t,i,W=>by rw [setAll,setAll_other hk t,Below.heap_setCell _ _ _ _ hk]
theorem setAll_heap {b:Nat} {t:TypeId} : ∀ (xs:List Value) (pre:List Value) (ys:List Value) (W:World),ys.length=xs.length→W.heap[b]? = some (.cells (pre++ys).toArray t (0,0))→(setAll W b pre.length xs).heap[b]? = some (.cells (pre++xs).toArray t (0,0))
 | [],pre,ys,W,hl,h=>by
   have:ys=[]:=List.eq_nil_of_length_eq_zero hl
   subst this
   exact h
 | x :: xs,pre,ys,W,hl,h=>by
   cases ys with
   | nil=>cases hl
   | cons y ys =>
     rw [setAll]
     have h2:=heap_setCell_same W b pre.length _ t x h
     have e:((pre++y :: ys).toArray.setIfInBounds pre.length x)=((pre++[x])++ys).toArray:=by
      simp
     rw [e] at h2
     have:=setAll_heap xs (pre++[x]) ys (W.setCell ⟨b,pre.length,none⟩ x) (by simpa using hl) h2
     rw [List.length_append,List.length_singleton] at this
     rw [this];simp
theorem setAll_row {b:Nat} {t:TypeId} {xs ys:List Value} {W:World} (hl:ys.length=xs.length) (h:W.heap[b]? = some (.cells ys.toArray t (0,0))):(setAll W b 0 xs).heap[b]? = some (.cells xs.toArray t (0,0)):=
 setAll_heap xs [] ys W hl h
theorem Moved.setAll {r b:Nat} {w:World} (hb:w.heap.size≤b):∀ (xs:List Value) (i:Nat) (W:World),Moved r w W→Moved r w (setAll W b i xs)
 | [],_,_,h=>h
 | x :: t,i,W,h=>by rw [Proofs.YtkacnnhdfkpenaaGreatDoor.setAll];exact Moved.setAll hb t _ _ (h.put hb)
theorem Rd.setAll {r b:Nat} {ts:List Tok} {d:Nat} (hb:r < b):∀ (xs:List Value) (i:Nat) (W:World),Rd W r ts d→Rd (setAll W b i xs) r ts d
 | [],_,_,h=>h
 | x :: t,i,W,h=>by rw [Proofs.YtkacnnhdfkpenaaGreatDoor.setAll];exact Rd.setAll hb t _ _ (h.set hb)
theorem below_setAll {B b:Nat} {W:World} (hb:B≤b):∀ (xs:List Value) (i:Nat) (W':World),Below B W W'→Below B W (setAll W' b i xs)
 | [],_,_,h=>h
 | x :: t,i,W',h=>by rw [Proofs.YtkacnnhdfkpenaaGreatDoor.setAll];exact below_setAll hb t _ _ (h.setCell (p:=⟨b,i,none⟩) hb x)
structure S0 (w:World) (r:Nat) (W:World) (o:Obj) (ts:List Tok) (d:Nat):Prop where
 res:W.heap[w.heap.size]? = some o
 mv:Moved r w W
 hr:r < w.heap.size
 rd:Rd W r ts d
 k:KRd r W
theorem S0.lt {w:World} {r:Nat} {W:World} {o:Obj} {ts:List Tok} {d:Nat} (h:S0 w r W o ts d):w.heap.size < W.heap.size:=(Array.getElem?_eq_some_iff.1 h.res).1
theorem S0.start {w:World} {r:Nat} {ts:List Tok} {d:Nat} (hR:Rd w r ts d) (hK:KRd r w) (cs:Array Value) (t:TypeId):S0 w r (w.alloc (.cells cs t)) (.cells cs t (0,0)) ts d:=
 ⟨heap_alloc_new _ _,Moved.of_below (blw _ _),hR.lt,hR.below (blw _ _),hK.moved (Moved.of_below (blw _ _))⟩
theorem S0.next {w:World} {r:Nat} {W W':World} {o:Obj} {ts ts':List Tok} {d d':Nat} (h:S0 w r W o ts d) (rd:Rd W' r ts' d') (m:Moved r W W'):S0 w r W' o ts' d':=
 ⟨m.keep h.res (by have:=h.hr;omega),h.mv.trans m,h.hr,rd,h.k.moved m⟩
structure S1 (w:World) (r:Nat) (W:World) (o:Obj) (b:Nat) (o1:Obj) (ts:List Tok) (d:Nat):Prop where
 res:W.heap[w.heap.size]? = some o
 loc:W.heap[b]? = some o1
 bl:w.heap.size < b
 mv:Moved r w W
 hr:r < w.heap.size
 rd:Rd W r ts d
 k:KRd r W
theorem S1.blt {w:World} {r:Nat} {W:World} {o:Obj} {b:Nat} {o1:Obj} {ts:List Tok} {d:Nat} (h:S1 w r W o b o1 ts d):b < W.heap.size:=(Array.getElem?_eq_some_iff.1 h.loc).1
theorem S1.rb {w:World} {r:Nat} {W:World} {o:Obj} {b:Nat} {o1:Obj} {ts:List Tok} {d:Nat} (h:S1 w r W o b o1 ts d):r < b:=Nat.lt_trans h.hr h.bl
theorem S1.of {w:World} {r:Nat} {W W':World} {o o1:Obj} {ts:List Tok} {d:Nat} (h:S0 w r W o ts d) (hl:W'.heap[W.heap.size]? = some o1) (hb:Below W.heap.size W W'):S1 w r W' o W.heap.size o1 ts d:=
 ⟨(hb.block _ h.lt).trans h.res,hl,h.lt,h.mv.trans (Moved.of_below hb),h.hr,h.rd.below hb,h.k.moved (Moved.of_below hb)⟩
theorem S1.make {w:World} {r:Nat} {W:World} {o:Obj} {ts:List Tok} {d:Nat} (h:S0 w r W o ts d) (cs:Array Value) (t:TypeId):S1 w r (W.alloc (.cells cs t)) o W.heap.size (.cells cs t (0,0)) ts d:=
 S1.of h (heap_alloc_new _ _) (blw _ _)
theorem S1.next {w:World} {r:Nat} {W W':World} {o:Obj} {b:Nat} {o1:Obj} {ts ts':List Tok} {d d':Nat} (h:S1 w r W o b o1 ts d) (rd:Rd W' r ts' d') (m:Moved r W W'):S1 w r W' o b o1 ts' d':=
 ⟨m.keep h.res (by have:=h.hr;omega),m.keep h.loc (by have:=h.rb;omega),h.bl,h.mv.trans m,h.hr,rd,h.k.moved m⟩
theorem S1.put {w:World} {r:Nat} {W:World} {o:Obj} {b:Nat} {cs:Array Value} {t:TypeId} {ts:List Tok} {d:Nat} (h:S1 w r W o b (.cells cs t (0,0)) ts d) (i:Nat) (v:Value):S1 w r (W.setCell ⟨b,i,none⟩ v) o b (.cells (cs.setIfInBounds i v) t (0,0)) ts d:=
 ⟨set_other' h.res (by have:=h.bl;omega),heap_setCell_same _ _ _ _ _ _ h.loc,h.bl,h.mv.put (Nat.le_of_lt h.bl),h.hr,h.rd.set h.rb,h.k.set h.rb⟩
def Ov (b:Nat) (W:World) (x:Tr) (c:Value):Prop:=TP W (fun k=>b < k∧k < W.heap.size) x c
def OvS (b:Nat) (W:World) (x:TrS) (c:List Value):Prop:=TS W (fun k=>b < k∧k < W.heap.size) x c
theorem Ov.of {b:Nat} {W W':World} {x:Tr} {c:Value} (h:TP W' (Fresh W W') x c) (hb:b < W.heap.size):Ov b W' x c:=TP.keep (fun _ hk=>⟨⟨Nat.lt_of_lt_of_le hb hk.1,hk.2⟩,rfl⟩) _ _ h
theorem OvS.of {b:Nat} {W W':World} {x:TrS} {c:List Value} (h:TS W' (Fresh W W') x c) (hb:b < W.heap.size):OvS b W' x c:=TS.keep (fun _ hk=>⟨⟨Nat.lt_of_lt_of_le hb hk.1,hk.2⟩,rfl⟩) _ _ h
theorem Ov.next {b r:Nat} {W W':World} {x:Tr} {c:Value} (h:Ov b W x c) (m:Moved r W W') (hr:r < b):Ov b W' x c:=TP.keep (fun k hk=>⟨⟨hk.1,Nat.lt_of_lt_of_le hk.2 m.size⟩,m.block k hk.2 (fun e=>by have:=hk.1;injection e;omega)⟩) _ _ h
theorem OvS.next {b r:Nat} {W W':World} {x:TrS} {c:List Value} (h:OvS b W x c) (m:Moved r W W') (hr:r < b):OvS b W' x c:=TS.keep (fun k hk=>⟨⟨hk.1,Nat.lt_of_lt_of_le hk.2 m.size⟩,m.block k hk.2 (fun e=>by have:=hk.1;injection e;omega)⟩) _ _ h
theorem Ov.put {b i c0:Nat} {W:World} {x:Tr} {c v:Value} (h:Ov b W x c) (hb:c0≤b):Ov b (W.setCell ⟨c0,i,none⟩ v) x c:=TP.keep (fun k hk=>⟨⟨hk.1,by have:=hk.2;simpa [World.setCell] using this⟩,Below.heap_setCell _ _ _ _ (show k ≠ c0 by have:=hk.1;omega)⟩) _ _ h
theorem OvS.put {b i c0:Nat} {W:World} {x:TrS} {c:List Value} {v:Value} (h:OvS b W x c) (hb:c0≤b):OvS b (W.setCell ⟨c0,i,none⟩ v) x c:=TS.keep (fun k hk=>⟨⟨hk.1,by have:=hk.2;simpa [World.setCell] using this⟩,Below.heap_setCell _ _ _ _ (show k ≠ c0 by have:=hk.1;omega)⟩) _ _ h
theorem Ov.fin {b:Nat} {w W:World} {x:Tr} {c:Value} (h:Ov b W x c) (hb:w.heap.size≤b) (xs:List Value):TP (setAll W w.heap.size 0 xs) (Fresh w (setAll W w.heap.size 0 xs)) x c:=TP.keep (fun k hk=>⟨⟨by have:=hk.1;omega,by rw [setAll_size];exact hk.2⟩,setAll_other (by have:=hk.1;omega) _ _ _⟩) _ _ h
theorem OvS.fin {b:Nat} {w W:World} {x:TrS} {c:List Value} (h:OvS b W x c) (hb:w.heap.size≤b) (xs:List Value):TS (setAll W w.heap.size 0 xs) (Fresh w (setAll W w.heap.size 0 xs)) x c:=TS.keep (fun k hk=>⟨⟨by have:=hk.1;omega,by rw [setAll_size];exact hk.2⟩,setAll_other (by have:=hk.1;omega) _ _ _⟩) _ _ h
theorem S1.fin {w:World} {r:Nat} {W:World} {ys:List Value} {t:TypeId} {b:Nat} {o1:Obj} {ts:List Tok} {d:Nat} (h:S1 w r W (.cells ys.toArray t (0,0)) b o1 ts d) (xs:List Value) (hl:ys.length=xs.length) :
  (setAll W w.heap.size 0 xs).heap[w.heap.size]? = some (.cells xs.toArray t (0,0))∧Rd (setAll W w.heap.size 0 xs) r ts d∧Moved r w (setAll W w.heap.size 0 xs):=
 ⟨setAll_row hl h.res,h.rd.setAll h.hr _ _ _,Moved.setAll (Nat.le_refl _) _ _ _ h.mv⟩
theorem S0.fin {w:World} {r:Nat} {W:World} {ys:List Value} {t:TypeId} {ts:List Tok} {d:Nat} (h:S0 w r W (.cells ys.toArray t (0,0)) ts d) (xs:List Value) (hl:ys.length=xs.length) :
  (setAll W w.heap.size 0 xs).heap[w.heap.size]? = some (.cells xs.toArray t (0,0))∧Rd (setAll W w.heap.size 0 xs) r ts d∧Moved r w (setAll W w.heap.size 0 xs):=
 ⟨setAll_row hl h.res,h.rd.setAll h.hr _ _ _,Moved.setAll (Nat.le_refl _) _ _ _ h.mv⟩
theorem ret_st {R:Ending→World→Prop} {fn:Func} {a:Act} {W:World} {cs:List Value} {ty:TypeId} {p b:Nat} {ds:TypeDesc} (hf:fn.results=#[.cell p ty]) (h2:a.tmps.getD p undef=.pointer (some ⟨b,0,none⟩)) (hd:a.defers=[])
  (hc:W.heap[b]? = some (.cells cs.toArray ty (0,0))) (hu:Tryz.prog.underlying ty=some ds) (hs:∃ fs,ds=.struct fs) (hi:(Tryz.prog.info? ty).map (·.size)=some cs.length) (hR:R (.returned (.agg cs.toArray)) W):bodyPost Tryz.prog fn R .ret a W:=by
 obtain ⟨fs,rfl⟩:=hs
 have hl:(loadVar ty ⟨b,0,none⟩).run Tryz.prog W=.ok (.agg cs.toArray) W:=run_loadVar_row W b ty ty cs.toArray (0,0) _ hc hu rfl (by rw [hi];simp)
 refine bodyPost_ret ?_ hd hR
 have h2':a.tmps[p]?.getD undef=.pointer (some ⟨b,0,none⟩):=by rw [← h2];simp
 simp [results,hf,h2',asAddr,hl]
theorem ten_cells {w:World} {b:Nat} {z0 z1 z2 z3 z4 z5 z6 z7 z8 z9:Value} {t:TypeId} (h:w.heap[b]? = some (.cells #[z0,z1,z2,z3,z4,z5,z6,z7,z8,z9] t (0,0))):w.cell? ⟨b,0,none⟩=some z0∧w.cell? ⟨b,1,none⟩=some z1∧w.cell? ⟨b,2,none⟩=some z2∧w.cell? ⟨b,3,none⟩=some z3∧w.cell? ⟨b,4,none⟩=some z4∧w.cell? ⟨b,5,none⟩=some z5∧w.cell? ⟨b,6,none⟩=some z6∧w.cell? ⟨b,7,none⟩=some z7∧w.cell? ⟨b,8,none⟩=some z8∧w.cell? ⟨b,9,none⟩=some z9∧∀ i,w.frozen? ⟨b,i,none⟩=false:=by
 refine ⟨?_,?_,?_,?_,?_,?_,?_,?_,?_,?_,fun i=>?_⟩
 all_goals first|(simp only [World.cell?,h];rfl)|simp [World.frozen?,h]
theorem val_open {w:World} {P:Nat→Prop} {a:VT} {v:Value} (h:layS encV w P a v):∃ (i0:Int) (i1:Int) (s2:ByteArray) (A3:Option Addr) (n3 c3:Nat) (A4:Option Addr) (n4 c4:Nat),v=.agg #[.int .i64 i0,.int .i64 i1,.string s2,.slice A3 n3 c3,.slice A4 n4 c4]∧TS w P (encV a) [.int .i64 i0,.int .i64 i1,.string s2,.slice A3 n3 c3,.slice A4 n4 c4]:=by
 obtain ⟨cs,rfl,h⟩:=h
 have h0:=h
 obtain ⟨k,n,s,l,m⟩:=a
 rw [encV] at h0
 simp only [TS,TP] at h0
 obtain ⟨c0,_,rfl,⟨rfl,_⟩,c1,_,rfl,⟨rfl,_⟩,c2,_,rfl,⟨rfl,_⟩,c3,_,rfl,⟨A3,k3,rfl,_,_⟩,c4,_,rfl,⟨A4,k4,rfl,_,_⟩,rfl⟩:=h0
 exact ⟨_,_,_,_,_,_,_,_,_,rfl,h⟩
theorem mem_open {w:World} {P:Nat→Prop} {a:ByteArray × VT} {v:Value} (h:layS (fun p=>encMem p.1 p.2) w P a v):∃ (s0:ByteArray) (i1:Int) (i2:Int) (s3:ByteArray) (A4:Option Addr) (n4 c4:Nat) (A5:Option Addr) (n5 c5:Nat),v=.agg #[.string s0,.int .i64 i1,.int .i64 i2,.string s3,.slice A4 n4 c4,.slice A5 n5 c5]∧TS w P ((fun p=>encMem p.1 p.2) a) [.string s0,.int .i64 i1,.int .i64 i2,.string s3,.slice A4 n4 c4,.slice A5 n5 c5]:=by
 obtain ⟨cs,rfl,h⟩:=h
 have h0:=h
 obtain ⟨nm,k,n,s,l,m⟩:=a
 simp only [encMem,encV,TS,TP] at h0
 obtain ⟨c0,_,rfl,⟨rfl,_⟩,c1,_,rfl,⟨rfl,_⟩,c2,_,rfl,⟨rfl,_⟩,c3,_,rfl,⟨rfl,_⟩,c4,_,rfl,⟨A4,k4,rfl,_,_⟩,c5,_,rfl,⟨A5,k5,rfl,_,_⟩,rfl⟩:=h0
 exact ⟨_,_,_,_,_,_,_,_,_,_,rfl,h⟩
theorem var_open {w:World} {P:Nat→Prop} {a:VarT} {v:Value} (h:layS encVar w P a v):∃ (s0:ByteArray) (s1:ByteArray) (i2:Int) (i3:Int) (b4:Bool) (i5:Int) (i6:Int) (s7:ByteArray) (A8:Option Addr) (n8 c8:Nat) (A9:Option Addr) (n9 c9:Nat),v=.agg #[.string s0,.string s1,.int .i64 i2,.int .i64 i3,.bool b4,.int .i64 i5,.int .i64 i6,.string s7,.slice A8 n8 c8,.slice A9 n9 c9]∧TS w P (encVar a) [.string s0,.string s1,.int .i64 i2,.int .i64 i3,.bool b4,.int .i64 i5,.int .i64 i6,.string s7,.slice A8 n8 c8,.slice A9 n9 c9]:=by
 obtain ⟨cs,rfl,h⟩:=h
 have h0:=h
 obtain ⟨n,tn,tl,tm,has,k,nn,s,l,m⟩:=a
 unfold encVar at h0
 rw [encV] at h0
 simp only [TS,TP] at h0
 obtain ⟨c0,_,rfl,⟨rfl,_⟩,c1,_,rfl,⟨rfl,_⟩,c2,_,rfl,⟨rfl,_⟩,c3,_,rfl,⟨rfl,_⟩,c4,_,rfl,⟨rfl,_⟩,c5,_,rfl,⟨rfl,_⟩,c6,_,rfl,⟨rfl,_⟩,c7,_,rfl,⟨rfl,_⟩,c8,_,rfl,⟨A8,k8,rfl,_,_⟩,c9,_,rfl,⟨A9,k9,rfl,_,_⟩,rfl⟩:=h0
 exact ⟨_,_,_,_,_,_,_,_,_,_,_,_,_,_,rfl,h⟩
theorem val_post (fx:Bool) (d:Nat) (ts:List Tok) (r:Nat) (w:World) (hG:GoodD ts) (hd:d≤16) (hR:Rd w r ts d) (hK:KRd r w):Calls Tryz.prog 306 #[.pointer (some ⟨r,0,none⟩),.bool fx] w (Post r d w (layS encV) (valD fx d ts)):=by
 refine (value_any (2*ts.length+1) fx d ts r w (Nat.le_refl _) hG.1 hd hR hK).mono ?_
 intro e w' h
 unfold valD
 cases hv:valR (2*ts.length+1) fx d ts with
 | error x=>rw [hv] at h;exact h
 | ok p =>
   obtain ⟨v,ts'⟩:=p
   rw [hv] at h
   obtain ⟨⟨d0,d1,d2,d3,d4,rfl,hvp⟩,h1,_,h3⟩:=h
   exact ⟨⟨_,rfl,[d0,d1,d2,d3,d4],rfl,vp_ts _ _ _ _ _ _ hvp⟩,h1,h3⟩
theorem mem_post (fx:Bool) (d:Nat) (ts:List Tok) (r:Nat) (w:World) (hG:GoodD ts) (hd:d≤16) (hR:Rd w r ts d) (hK:KRd r w):Calls Tryz.prog 305 #[.pointer (some ⟨r,0,none⟩),.bool fx] w (Post r d w (layS (fun p=>encMem p.1 p.2)) (memD fx d ts)):=by
 refine (member_any (2*ts.length+1) fx d ts r w (Nat.le_refl _) hG.1 hd hR hK).mono ?_
 intro e w' h
 unfold memD
 cases hv:memR (2*ts.length+1) fx d ts with
 | error x=>rw [hv] at h;exact h
 | ok p =>
   obtain ⟨⟨nm,v⟩,ts'⟩:=p
   rw [hv] at h
   obtain ⟨⟨d0,d1,d2,d3,d4,rfl,hs,hvp⟩,h1,_,h3⟩:=h
   exact ⟨⟨_,rfl,[.string nm,d0,d1,d2,d3,d4],rfl,TS.str hs (vp_ts _ _ _ _ _ _ hvp)⟩,h1,h3⟩
theorem typ_deep (ts:List Tok) (hb:atB 1 oB ts=true):TypC 0 ts:=by
 intro r d w h
 have R0:=Hd ((h.below (blw w (.cells #[.string ⟨#[]⟩,.int .i64 0,.int .i64 0] 74))).below (blw _ (.cells #[.string ⟨#[]⟩,.int .i64 0,.int .i64 0] 74)))
 have K0:=Hd (TwoT.start w r (.string ⟨#[]⟩) (.int .i64 0) (.int .i64 0) (.string ⟨#[]⟩) (.int .i64 0) (.int .i64 0) h.lt)
 have HA:=Hd (at_any r ts d 1 oB _ R0.out)
 rw [hb] at HA
 rw [typeR_deep hb]
 clear h hb
 show Calls _ _ #[_,.int .i64 4] _ fun e w'=>e=PanicE 4∧Moved r w w'
 go_enter Tryz.func307,Tryz.ntmps307
 go_wp2_with fail
 refine HA.out.mono ?_
 rintro e w1 ⟨rfl,rfl⟩
 go_wp2_with fail
 exact ⟨rfl,rfl,K0.out.2.2.1⟩
theorem typ_list (left:Nat) (hleft:left+1≤4) (ih:∀ ts,NamesT ts→TypC left ts) (ts:List Tok) (hN:NamesT ts) (hb:atB 1 oB ts=true):TypC (left+1) ts:=by
 intro r d w h
 have K0:=Hd (TwoT.start w r (.string ⟨#[]⟩) (.int .i64 0) (.int .i64 0) (.string ⟨#[]⟩) (.int .i64 0) (.int .i64 0) h.lt)
 have R0:=Hd ((h.below (blw w (.cells #[.string ⟨#[]⟩,.int .i64 0,.int .i64 0] 74))).below (blw _ (.cells #[.string ⟨#[]⟩,.int .i64 0,.int .i64 0] 74)))
 have HA:=Hd (at_any r ts d 1 oB _ R0.out)
 have HK:=Hd (skip_any r ts d 1 oB _ R0.out)
 have hst:skipT 1 oB ts=ts.tail:=by unfold skipT;rw [hb];rfl
 rw [hb] at HA HK
 rw [hst] at HK
 obtain ⟨L,hL⟩:∃ L:Int,((4 - (left+1):Nat):Int)=L:=⟨_,rfl⟩
 have hL4:(L == 4)=false:=by simp;omega
 have hL1:L+1=((4 - left:Nat):Int):=by omega
 have hLb:0≤L∧L≤4:=by omega
 rw [hL]
 have HI:=fun wx (hx:Rd wx r ts.tail d)=>Hd (ih ts.tail hN.tail r d wx hx)
 rw [← hL1] at HI
 have hright:=type_right left ts.tail hN.tail
 clear hst h hN hL hL1 ih
 cases hi:typeR left ts.tail with
 | error x =>
   rw [hi] at HI
   have hg:typeR (left+1) ts=.error x:=by rw [typeR_list hb,hi]
   rw [hg]
   clear hg hb
   show Calls _ _ _ _ fun e w'=>e=PanicE x∧Moved r w w'
   clear hi hright
   go_enter Tryz.func307,Tryz.ntmps307
   go_wp2_with fail
   refine HA.out.mono ?_
   rintro e w1 ⟨rfl,rfl⟩
   go_wp2_with fail
   refine HK.out.mono ?_
   rintro e w2 ⟨rfl,r2,m2⟩
   have K2:=Hd (K0.out.next m2)
   have R2:=Hd r2
   clear r2 m2
   go_wp2_with fail
   refine (HI _ R2.out).out.mono ?_
   rintro e w3 ⟨rfl,m3⟩
   exact ⟨rfl,rfl,K2.out.2.2.1.trans m3⟩
 | ok p =>
   obtain ⟨⟨n,l,m⟩,ts1⟩:=p
   rw [hi] at HI
   have RNi:=hright n l m ts1 hi
   have HLI:=fun wx=>Hd (by have h:=list_any n (l:Int) (m:Int) wx RNi.2.1;rw [list_of RNi (by omega),yesT] at h;exact h)
   have RN:=Hd (show RightN n (l+1) (2*m) (left+1) ts1.tail from ⟨RNi.1,RNi.2.1,by have:=RNi.2.2.1;omega,by have:=RNi.2.2.2.1;rw [Nat.pow_succ];omega,RNi.2.2.2.2.tail⟩)
   clear hright RNi
   cases hc:atB 1 cB ts1 with
   | false =>
     have HN:=fun wx (hx:Rd wx r ts1 d)=>Hd (by have:=need_any r ts1 d 1 cB wx hx;rw [hc] at this;simp only [Bool.false_eq_true,if_false] at this;exact this)
     have hg:typeR (left+1) ts=.error 2:=by rw [typeR_list hb,hi];show (if atB 1 cB ts1=true then _ else _)=_;rw [hc];rfl
     rw [hg]
     clear hc hg hb hi
     show Calls _ _ _ _ fun e w'=>e=PanicE 2∧Moved r w w'
     go_enter Tryz.func307,Tryz.ntmps307
     go_wp2_with fail
     refine HA.out.mono ?_
     rintro e w1 ⟨rfl,rfl⟩
     go_wp2_with fail
     refine HK.out.mono ?_
     rintro e w2 ⟨rfl,r2,m2⟩
     have K2:=Hd (K0.out.next m2)
     have R2:=Hd r2
     clear r2 m2
     go_wp2_with fail
     refine (HI _ R2.out).out.mono ?_
     rintro e w3 ⟨rfl,r3,m3⟩
     have K3:=Hd (K2.out.next m3)
     have R3:=Hd r3
     clear r3 m3 HI
     go_wp2_with fail
     refine (HLI _).out.mono ?_
     rintro e w4 ⟨rfl,hb4⟩
     have K4:=Hd (K3.out.next (Moved.of_below hb4))
     have R4:=Hd (R3.out.below hb4)
     clear hb4 HLI K0 K2 K3 R0 R2 R3
     obtain ⟨k0,k1,k2,z0,z1,z2⟩:=ty_cells K4.out.2.1
     go_wp2_with fail
     clear k0 k1 k2 z0 z1 z2
     have K5:=Hd (K4.out.set2 (.string n) (.int .i64 ((l+1:Nat):Int)) (.int .i64 ((2*m:Nat):Int)))
     have R5:=Hd (((R4.out.set (b:=w.heap.size+1) (i:=0) (v:=.string n) (Nat.lt_succ_of_lt K4.out.2.2.2)).set (b:=w.heap.size+1) (i:=1) (v:=.int .i64 ((l+1:Nat):Int)) (Nat.lt_succ_of_lt K4.out.2.2.2)).set (b:=w.heap.size+1) (i:=2) (v:=.int .i64 ((2*m:Nat):Int)) (Nat.lt_succ_of_lt K4.out.2.2.2))
     refine (HN _ R5.out).out.mono ?_
     rintro e w6 ⟨rfl,m6⟩
     exact ⟨rfl,rfl,K5.out.2.2.1.trans m6⟩
   | true =>
     have HN:=fun wx (hx:Rd wx r ts1 d)=>Hd (by have:=need_any r ts1 d 1 cB wx hx;rw [hc] at this;simp only [if_true] at this;exact this)
     have hg:typeR (left+1) ts=.ok (bangR n (l+1) (2*m) ts1.tail):=by rw [typeR_list hb,hi];show (if atB 1 cB ts1=true then _ else _)=_;rw [hc];rfl
     rw [hg]
     clear hc hg hb hi
     obtain ⟨RES,hRES⟩:∃ RES,bangR n (l+1) (2*m) ts1.tail=RES:=⟨_,rfl⟩
     rw [hRES]
     have hR:=Hd hRES.symm
     clear hRES
     obtain ⟨l1,hl1⟩:∃ l1,l+1=l1:=⟨_,rfl⟩
     obtain ⟨m1,hm1⟩:∃ m1,2*m=m1:=⟨_,rfl⟩
     rw [hl1,hm1] at RN hR HLI
     clear hl1 hm1
     go_enter Tryz.func307,Tryz.ntmps307
     go_wp2_with fail
     refine HA.out.mono ?_
     rintro e w1 ⟨rfl,rfl⟩
     go_wp2_with fail
     refine HK.out.mono ?_
     rintro e w2 ⟨rfl,r2,m2⟩
     have K2:=Hd (K0.out.next m2)
     have R2:=Hd r2
     clear r2 m2
     go_wp2_with fail
     refine (HI _ R2.out).out.mono ?_
     rintro e w3 ⟨rfl,r3,m3⟩
     have K3:=Hd (K2.out.next m3)
     have R3:=Hd r3
     clear r3 m3 HI
     go_wp2_with fail
     refine (HLI _).out.mono ?_
     rintro e w4 ⟨rfl,hb4⟩
     have K4:=Hd (K3.out.next (Moved.of_below hb4))
     have R4:=Hd (R3.out.below hb4)
     clear hb4 HLI K0 K2 K3 R0 R2 R3
     obtain ⟨k0,k1,k2,z0,z1,z2⟩:=ty_cells K4.out.2.1
     go_wp2_with fail
     clear k0 k1 k2 z0 z1 z2
     have K5:=Hd (K4.out.set2 (.string n) (.int .i64 (l1:Int)) (.int .i64 (m1:Int)))
     have R5:=Hd (((R4.out.set (b:=w.heap.size+1) (i:=0) (v:=.string n) (Nat.lt_succ_of_lt K4.out.2.2.2)).set (b:=w.heap.size+1) (i:=1) (v:=.int .i64 (l1:Int)) (Nat.lt_succ_of_lt K4.out.2.2.2)).set (b:=w.heap.size+1) (i:=2) (v:=.int .i64 (m1:Int)) (Nat.lt_succ_of_lt K4.out.2.2.2))
     refine (HN _ R5.out).out.mono ?_
     rintro e w6 ⟨rfl,r6,m6⟩
     have K6:=Hd (K5.out.next m6)
     have R6:=Hd r6
     clear r6 m6 HN K5 R5 K4 R4 HA HK
     go_wp2_with fail
     generalize ts1.tail=ts2 at *
     have HS:=Hd (skip_any r ts2 d 1 bB _ R6.out)
     have hbb:Hid (bangR n l1 m1 ts2=if atB 1 bB ts2=true then ((n,l1,m1 ||| 1),ts2.tail) else ((n,l1,m1),ts2)):=Hd rfl
     have hst:Hid (skipT 1 bB ts2=if atB 1 bB ts2=true then ts2.tail else ts2):=Hd rfl
     generalize atB 1 bB ts2=q at *
     obtain ⟨k0,k1,k2,z0,z1,z2⟩:=ty_cells K6.out.2.1
     obtain ⟨j0,j1,j2,y0,y1,y2⟩:=ty_cells K6.out.1
     clear k0 k1 k2 z0 z1 z2 j0 j1 j2 y0 y1 y2
     go_wp2_with fail
     cases q with
     | false =>
       refine HS.out.mono ?_
       rintro e wa ⟨rfl,ra,ma⟩
       rw [hst.out] at ra
       have KA:=Hd (K6.out.next ma)
       have RA:=Hd ra
       obtain ⟨k0,k1,k2,z0,z1,z2⟩:=ty_cells KA.out.2.1
       obtain ⟨j0,j1,j2,y0,y1,y2⟩:=ty_cells KA.out.1
       clear ra ma HS
       go_wp2_with fail
       have KB:=Hd (KA.out.set1 (.string n) (.int .i64 (l1:Nat)) (.int .i64 (m1:Nat)))
       refine ret_tp rfl rfl rfl KB.out.1 ?_
       rw [hR.out,hbb.out]
       exact ⟨rfl,((RA.out.set (Nat.lt_of_lt_of_le KA.out.2.2.2 (Nat.le_refl _))).set (Nat.lt_of_lt_of_le KA.out.2.2.2 (Nat.le_refl _))).set (Nat.lt_of_lt_of_le KA.out.2.2.2 (Nat.le_refl _)),KB.out.2.2.1⟩
     | true =>
       refine HS.out.mono ?_
       rintro e wa ⟨rfl,ra,ma⟩
       rw [hst.out] at ra
       have KA:=Hd (K6.out.next ma)
       have RA:=Hd ra
       have HM:=fun wx=>Hd (by have h:=must_any n (l1:Nat) (m1:Nat) wx RN.out.2.1;rw [must_of RN.out hleft] at h;exact h)
       obtain ⟨k0,k1,k2,z0,z1,z2⟩:=ty_cells KA.out.2.1
       clear ra ma HS
       go_wp2_with fail
       refine (HM _).out.mono ?_
       rintro e wb ⟨rfl,hb⟩
       have KB:=Hd (KA.out.next (Moved.of_below hb))
       have RB:=Hd (RA.out.below hb)
       clear hb k0 k1 k2 z0 z1 z2 HM
       obtain ⟨k0,k1,k2,z0,z1,z2⟩:=ty_cells KB.out.2.1
       obtain ⟨j0,j1,j2,y0,y1,y2⟩:=ty_cells KB.out.1
       go_wp2_with fail
       have KC:=Hd ((KB.out.set2 (.string n) (.int .i64 (l1:Nat)) (.int .i64 ((m1 ||| 1:Nat):Int))).set1 (.string n) (.int .i64 (l1:Nat)) (.int .i64 ((m1 ||| 1:Nat):Int)))
       refine ret_tp rfl rfl rfl KC.out.1 ?_
       rw [hR.out,hbb.out]
       have hlt:=KB.out.2.2.2
       exact ⟨rfl,(((((RB.out.set (by omega)).set (by omega)).set (by omega)).set (by omega)).set (by omega)).set (by omega),KC.out.2.2.1⟩
theorem typ_any (left:Nat) (hleft:left≤4):∀ ts,NamesT ts→TypC left ts:=by
 induction left with
 | zero =>
   intro ts hN
   cases hb:atB 1 oB ts with
   | true=>exact typ_deep ts hb
   | false=>exact typ_name 0 hleft ts hN hb
 | succ left ih =>
   intro ts hN
   cases hb:atB 1 oB ts with
   | true=>exact typ_list left hleft (ih (by omega)) ts hN hb
   | false=>exact typ_name (left+1) hleft ts hN hb
theorem assert_refusal (v:Value) (w:World):(Instr.typeAssert (.iface 182 v) 20 182 true).run Tryz.prog w=.ok (.tuple #[v,.bool true]) w:=by kernel_rfl
end Go.Proofs.YtkacnnhdfkpenaaGreatDoor
