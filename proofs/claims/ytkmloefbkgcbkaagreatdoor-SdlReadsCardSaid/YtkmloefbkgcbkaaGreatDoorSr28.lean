/- The landed whole[Doc], whole[Value]; Read and Value. -/
import Derived.Test.YtkmloefbkgcbkaaGreatDoorSr27
import Derived.Test.YtkmloefbkgcbkaaGreatDoorSr26
set_option maxRecDepth 100000
set_option maxHeartbeats 4000000
namespace Go.Proofs.YtkmloefbkgcbkaaGreatDoor
open Go.RowKit
theorem Wm {w w2:World} {cs:Array Value} {t:TypeId} {u v:Value} {o:Obj} (h4:w2.heap[w.heap.size]? = some (.cells cs t (0,0))) (h5:w2.heap[w.heap.size+1]? = some (.cells #[u] 26 (0,0))) :
   ((w2.setCell ⟨w.heap.size+1,0,none⟩ v).alloc o).heap[w.heap.size]? = some (.cells cs t (0,0))∧((w2.setCell ⟨w.heap.size+1,0,none⟩ v).alloc o).heap[w.heap.size+1]? = some (.cells #[v] 26 (0,0))∧Z0 (w.heap.size+1) w2 ((w2.setCell ⟨w.heap.size+1,0,none⟩ v).alloc o)∧w.heap.size+2≤w2.heap.size∧((w2.setCell ⟨w.heap.size+1,0,none⟩ v).alloc o).heap.size=w2.heap.size+1:=by
 have l5:=(Array.getElem?_eq_some_iff.1 h5).1;have hs:(w2.setCell ⟨w.heap.size+1,0,none⟩ v).heap.size=w2.heap.size:=by simp [World.setCell]
 refine ⟨?_,?_,Z0.set.trans (Z0.of_below (blw _ _)),by omega,by simp [hs]⟩
 · rw [Below.heap_alloc _ _ _ (by rw [hs];omega),Below.heap_setCell _ _ _ _ (Nat.ne_of_lt (Nat.lt_succ_self _))];exact h4
 · rw [Below.heap_alloc _ _ _ (by rw [hs];omega)];exact heap_setCell_same _ _ 0 _ _ _ h5
theorem Ok {w w4:World} {cs:Array Value} {t:TypeId} {v:Value} {o:Obj} (h4:w4.heap[w.heap.size]? = some (.cells cs t (0,0))) (h5:w4.heap[w.heap.size+1]? = some (.cells #[v] 26 (0,0))) :
  (w4.alloc o).heap[w.heap.size]? = some (.cells cs t (0,0))∧(w4.alloc o).heap[w.heap.size+1]? = some (.cells #[v] 26 (0,0))∧(w4.alloc o).heap[w4.heap.size]? = some o:=
 ⟨(Below.heap_alloc _ _ _ (Array.getElem?_eq_some_iff.1 h4).1).trans h4,(Below.heap_alloc _ _ _ (Array.getElem?_eq_some_iff.1 h5).1).trans h5,heap_alloc_last _ _⟩
theorem Zyq {w wx w4:World} {s:TrS} {cs xs:List Value} {o:Obj} {v:Value} (h:TS w4 (Y7 wx w4) s cs) (hlt:w.heap.size+2≤wx.heap.size):TS ((setAll (w4.alloc o) w.heap.size 0 xs).setCell ⟨w.heap.size+1,0,none⟩ v) (Y7 w ((setAll (w4.alloc o) w.heap.size 0 xs).setCell ⟨w.heap.size+1,0,none⟩ v)) s cs:=by
 have hs:((setAll (w4.alloc o) w.heap.size 0 xs).setCell ⟨w.heap.size+1,0,none⟩ v).heap.size=w4.heap.size+1:=by
  have:((setAll (w4.alloc o) w.heap.size 0 xs).setCell ⟨w.heap.size+1,0,none⟩ v).heap.size=(setAll (w4.alloc o) w.heap.size 0 xs).heap.size:=by simp [World.setCell]
  rw [this,Vz];simp
 refine TS.keep (fun k hk=>?_) _ _ h;have h1:=hk.1;have h2:=hk.2;refine ⟨⟨by omega,by rw [hs];omega⟩,?_⟩;rw [Below.heap_setCell _ _ _ _ (show k ≠ w.heap.size+1 by omega),Xk (show k ≠ w.heap.size by omega),Below.heap_alloc _ _ _ h2]
def F7 {α:Type} (R:List Tok→Except Int (α × List Tok)) (l:List UInt8):Except Int α:=
 if (Zz l).2 ≠ 0 then .error (Zz l).2 else
  match R (C8 (Zz l).1) with
  | .error x=>.error x
  | .ok (a,r)=>if r=[] then .ok a else .error 2
theorem Qt {w:World} {P:Nat→Prop} {a:Ub} {v:Value} (h:N9 Xw w P a v):∃ (A0:Option Addr) (n0 k0:Nat) (sq sm:ByteArray),v=.agg #[.slice A0 n0 k0,.string sq,.string sm]∧TS w P (Xw a) [.slice A0 n0 k0,.string sq,.string sm]:=by
 obtain ⟨cs,rfl,h⟩:=h;have h0:=h;unfold Xw at h0;simp only [TS,TP] at h0;obtain ⟨c0,_,rfl,⟨A0,k0,rfl,_,_⟩,c1,_,rfl,⟨rfl,_⟩,c2,_,rfl,⟨rfl,_⟩,rfl⟩:=h0;exact ⟨_,_,_,_,_,rfl,h⟩
theorem Qm {fn:Func} {R:Ending→World→Prop} {tmps:Array Value} {W:World} {q0 q1 q2 u:Value} {b4 b5:Nat} (hf:fn.results=#[.cell 4 25,.cell 5 26]) (h4:W.heap[b4]? = some (.cells #[q0,q1,q2] 25 (0,0))) (h5:W.heap[b5]? = some (.cells #[u] 26 (0,0)))
  (t4:tmps.getD 4 undef=.pointer (some ⟨b4,0,none⟩)) (t5:tmps.getD 5 undef=.pointer (some ⟨b5,0,none⟩)) (hR:R (.returned (.tuple #[.agg #[q0,q1,q2],u])) W):Leaves Tryz.prog fn tmps R [] .returning W:=by
 obtain ⟨k0q,k1q,k2q,kz⟩:=Zf h4;have c5:=(Uf h5).1;have t4':tmps[4]?.getD undef=.pointer (some ⟨b4,0,none⟩):=by rw [← t4];simp
 have t5':tmps[5]?.getD undef=.pointer (some ⟨b5,0,none⟩):=by rw [← t5];simp
 clear kz;simp [Leaves,results,hf,t4',t5',asAddr,go_sem,k0q,k1q,k2q,c5]
 exact hR
theorem Zjh (p:Addr) (w:World) :
  CallsD Tryz.prog 20 #[.pointer (some p)] .returning w fun e u' w'=>e=.returned (.tuple #[])∧u'=.returning∧w'=w:=by
 refine callsD_of_wpS Tryz.func20 rfl fun c₀ cs hu=>?_
 apply wpS_seq
 apply wpS_region
 simp [wpOpsS,go_sem,recoverD,hu,Tryz.ntmps20,Exit.thenS]
 refine wpS_of_wp ?_
 change Code.wp _ _ _ ⟨#[.pointer (some p),undef,undef,undef,.nilIface,undef,undef,undef,undef,undef,undef,undef],[]⟩ _
 go_wp2_with fail
 cases c₀
 simp_all [bodyPostS,results,Tryz.results20]
theorem L9 (p:Addr) (x y:Int) (older:List PanicEntry) (w:World) (hc:w.cell? p=some (.int .i64 x)) (hz:w.frozen? p=false) (hp:p.block < w.heap.size) :
  CallsD Tryz.prog 20 #[.pointer (some p)] (.panicking ({ v:=.iface 54 (.agg #[.int .i64 y]),recovered:=false } :: older)) w fun e u' w'=>e=.returned (.tuple #[])∧u'=.panicking ({ v:=.iface 54 (.agg #[.int .i64 y]),recovered:=true } :: older)∧w'=(w.alloc (.cells #[.int .i64 y] 54)).setCell p (.int .i64 y):=by
 have hta:=N6;have hz2:(w.alloc (.cells #[.int .i64 y] 54)).frozen? p=false:=(World.frozen?_of_block (Below.heap_alloc _ _ _ hp)).trans hz;have hc2:(w.alloc (.cells #[.int .i64 y] 54)).cell? p=some (.int .i64 x):=(World.cell?_of_block (Below.heap_alloc _ _ _ hp)).trans hc;refine callsD_of_wpS Tryz.func20 rfl fun c₀ cs hu=>?_
 apply wpS_seq
 apply wpS_region
 simp [wpOpsS,go_sem,recoverD,hu,Tryz.ntmps20,Exit.thenS]
 refine wpS_of_wp ?_
 change Code.wp _ _ _ ⟨#[.pointer (some p),undef,undef,undef,.iface 54 (.agg #[.int .i64 y]),undef,undef,undef,undef,undef,undef,undef],[]⟩ _
 go_wp2_with fail
 cases c₀
 simp_all [bodyPostS,results,Tryz.results20]
theorem Yey (s:ByteArray) (w:World) (hs:s.size≤9000) (h3:Ue w) (h5:Ve w) (ts:List (Int × List UInt8)) (hl:ts.length≤200000) (R:Except Int (Ub × List Tok))
   (HT:∀ g wx,Below w.heap.size w wx→w.heap.size≤g→Rd wx g (C8 ts) 0→KRd g wx→Calls Tryz.prog 9 #[.pointer (some ⟨g,0,none⟩)] wx (Ca g 0 wx (N9 Xw) R))
   (hr:Zz s.data.toList=(ts,0)) (x:Int) (hR:R=.error x):Calls Tryz.prog 8 #[.string s,.func (.func 9) #[] #[]] w fun e w'=>e=.returned (.tuple #[.agg #[.slice none 0 0,.string ⟨#[]⟩,.string ⟨#[]⟩],.int .i64 x])∧Below w.heap.size w w':=by
 have hmf:∀ (fn:Fn) (first cap:Array Value) (w:World),(Instr.makeFunc fn first cap).run Tryz.prog w=.ok (.func fn first cap) w:=fun _ _ _ _=>rfl;have HR:=fun wx (hb:Below w.heap.size w wx)=>Hd (by have:=Dm s wx hs (h3.below hb);rw [hr] at this;exact this);have HTT:=Hd HT;have B0:=Hd (Fm w (.cells #[.slice none 0 0,.string ⟨#[]⟩,.string ⟨#[]⟩] 25) (.cells #[.int .i64 0] 26));obtain ⟨y0,y1⟩:=Dj w (.cells #[.slice none 0 0,.string ⟨#[]⟩,.string ⟨#[]⟩] 25) (.cells #[.int .i64 0] 26);have Y:=Hd (And.intro y0 y1);have hsz:Hid (((w.alloc (.cells #[.slice none 0 0,.string ⟨#[]⟩,.string ⟨#[]⟩] 25)).alloc (.cells #[.int .i64 0] 26)).heap.size=w.heap.size+2):=Hd (by simp);have H5:=Hd h5;clear hr HT y0 y1
 go_enter_defers Tryz.func8,Tryz.ntmps8
 go_wp2_with fail
 refine (HR _ B0.out).out.mono ?_;rintro e w2 ⟨A,cap,rfl,hown,hb2⟩;have z4:=(hb2.block w.heap.size (by have:=hsz.out;omega)).trans Y.out.1;have z5:=(hb2.block (w.heap.size+1) (by have:=hsz.out;omega)).trans Y.out.2;obtain ⟨k0q,k1q,k2q,kz⟩:=Zf z4;have kf0:=kz 0;have kf1:=kz 1;have kf2:=kz 2;clear kz;obtain ⟨e0,e1⟩:=Uf z5;have Z:=Hd (And.intro z4 z5);have B2:=Hd (B0.out.trans (hb2.mono (by have:=hsz.out;omega)));have OW:=Hd hown;clear hb2 hown z4 z5;go_wp2_with fail
 have R3:=Hd (Sf (w:=w) OW.out hl (Nat.le_of_eq hsz.out.symm) (v:=.int .i64 0));have D3:=Hd (Wm Z.out.1 Z.out.2 (v:=.int .i64 0) (o:=.cells #[.slice A ts.length cap,.int .i64 0] 57));have KR:=Hd (show KRd w2.heap.size _ from ⟨w,H5.out,by have:=D3.out.2.2.2.1;omega,Vi B2.out D3.out.2.2.1 (Z0.refl _ _) D3.out.2.2.2.1⟩);refine (HTT.out _ _ (Vi B2.out D3.out.2.2.1 (Z0.refl _ _) D3.out.2.2.2.1) (by have:=D3.out.2.2.2.1;omega) R3.out KR.out).mono ?_;rw [hR];intro e w4 h;obtain ⟨rfl,m4⟩:=Ji h;have z4:=m4.keep D3.out.1 (by have:=D3.out.2.2.2.1;omega);have z5:=m4.keep D3.out.2.1 (by have:=D3.out.2.2.2.1;omega);clear e0 e1 k0q kf0 k1q kf1 k2q kf2;obtain ⟨e0,e1⟩:=Uf z5;have hlt5:=(Array.getElem?_eq_some_iff.1 z5).1;have B4:=Hd (Vi B2.out D3.out.2.2.1 m4 D3.out.2.2.2.1);have Z4:=Hd (And.intro z4 z5);refine leaves_cons (f:=20) (args:=#[.pointer (some ⟨w.heap.size+1,0,none⟩)]) (by simp) (by simp [go_sem]) ?_;refine (L9 ⟨w.heap.size+1,0,none⟩ 0 x [] _ e0 e1 hlt5).mono ?_;rintro e u' w'' ⟨rfl,rfl,rfl⟩;refine Qm rfl (b4:=w.heap.size) (b5:=w.heap.size+1) (u:=.int .i64 x) ?_ ?_ rfl rfl ⟨rfl,?_⟩
 · rw [Below.heap_setCell _ _ _ _ (Nat.ne_of_lt (Nat.lt_succ_self _)),Below.heap_alloc _ _ _ (by omega)];exact Z4.out.1
 · exact heap_setCell_same _ _ 0 _ _ _ ((Below.heap_alloc _ _ _ hlt5).trans Z4.out.2)
 · exact (B4.out.alloc B4.out.size _).setCell (Nat.le_succ _) _
theorem Zj6 (s:ByteArray) (w:World) (hs:s.size≤9000) (h3:Ue w) (h5:Ve w) (ts:List (Int × List UInt8)) (hl:ts.length≤200000) (R:Except Int (Ub × List Tok))
   (HT:∀ g wx,Below w.heap.size w wx→w.heap.size≤g→Rd wx g (C8 ts) 0→KRd g wx→Calls Tryz.prog 9 #[.pointer (some ⟨g,0,none⟩)] wx (Ca g 0 wx (N9 Xw) R))
   (hr:Zz s.data.toList=(ts,0)) (a:Ub) (t:Tok) (ts2:List Tok) (hR:R=.ok (a,t :: ts2)):Calls Tryz.prog 8 #[.string s,.func (.func 9) #[] #[]] w fun e w'=>e=.returned (.tuple #[.agg #[.slice none 0 0,.string ⟨#[]⟩,.string ⟨#[]⟩],.int .i64 2])∧Below w.heap.size w w':=by
 have hmf:∀ (fn:Fn) (first cap:Array Value) (w:World),(Instr.makeFunc fn first cap).run Tryz.prog w=.ok (.func fn first cap) w:=fun _ _ _ _=>rfl;have HR:=fun wx (hb:Below w.heap.size w wx)=>Hd (by have:=Dm s wx hs (h3.below hb);rw [hr] at this;exact this);have HTT:=Hd HT;have B0:=Hd (Fm w (.cells #[.slice none 0 0,.string ⟨#[]⟩,.string ⟨#[]⟩] 25) (.cells #[.int .i64 0] 26));obtain ⟨y0,y1⟩:=Dj w (.cells #[.slice none 0 0,.string ⟨#[]⟩,.string ⟨#[]⟩] 25) (.cells #[.int .i64 0] 26);have Y:=Hd (And.intro y0 y1);have hsz:Hid (((w.alloc (.cells #[.slice none 0 0,.string ⟨#[]⟩,.string ⟨#[]⟩] 25)).alloc (.cells #[.int .i64 0] 26)).heap.size=w.heap.size+2):=Hd (by simp);have H5:=Hd h5;clear hr HT y0 y1
 go_enter_defers Tryz.func8,Tryz.ntmps8
 go_wp2_with fail
 refine (HR _ B0.out).out.mono ?_;rintro e w2 ⟨A,cap,rfl,hown,hb2⟩;have z4:=(hb2.block w.heap.size (by have:=hsz.out;omega)).trans Y.out.1;have z5:=(hb2.block (w.heap.size+1) (by have:=hsz.out;omega)).trans Y.out.2;obtain ⟨k0q,k1q,k2q,kz⟩:=Zf z4;have kf0:=kz 0;have kf1:=kz 1;have kf2:=kz 2;clear kz;obtain ⟨e0,e1⟩:=Uf z5;have Z:=Hd (And.intro z4 z5);have B2:=Hd (B0.out.trans (hb2.mono (by have:=hsz.out;omega)));have OW:=Hd hown;clear hb2 hown z4 z5;go_wp2_with fail
 have R3:=Hd (Sf (w:=w) OW.out hl (Nat.le_of_eq hsz.out.symm) (v:=.int .i64 0));have D3:=Hd (Wm Z.out.1 Z.out.2 (v:=.int .i64 0) (o:=.cells #[.slice A ts.length cap,.int .i64 0] 57));have KR:=Hd (show KRd w2.heap.size _ from ⟨w,H5.out,by have:=D3.out.2.2.2.1;omega,Vi B2.out D3.out.2.2.1 (Z0.refl _ _) D3.out.2.2.2.1⟩);refine (HTT.out _ _ (Vi B2.out D3.out.2.2.1 (Z0.refl _ _) D3.out.2.2.2.1) (by have:=D3.out.2.2.2.1;omega) R3.out KR.out).mono ?_;rw [hR];intro e w4 h;obtain ⟨⟨v,rfl,hly⟩,r4,m4⟩:=Uv h;obtain ⟨A0,n0,k0,sq,sm,rfl,_⟩:=Qt hly;have z4:=m4.keep D3.out.1 (by have:=D3.out.2.2.2.1;omega);have z5:=m4.keep D3.out.2.1 (by have:=D3.out.2.2.2.1;omega);have B4:=Hd (Vi B2.out D3.out.2.2.1 m4 D3.out.2.2.2.1);have Z4:=Hd (And.intro z4 z5);have HE:=Hd (fun wx (hb:Below w4.heap.size w4 wx)=>Vb w2.heap.size (t :: ts2) 0 wx (r4.below hb));have hlt4:w.heap.size+1 < w4.heap.size:=(Array.getElem?_eq_some_iff.1 z5).1;clear e0 e1 k0q kf0 k1q kf1 k2q kf2 z4 z5 r4 m4 hly h;go_wp2_with fail
 refine (HE.out _ (blw _ _)).mono ?_;rintro e w5 ⟨rfl,rfl⟩;have A6:=Hd (Ok Z4.out.1 Z4.out.2 (o:=.cells #[.slice A0 n0 k0,.string sq,.string sm] 25));obtain ⟨e0,e1⟩:=Uf A6.out.2.1;have hlt5:w.heap.size+1 < (w4.alloc (.cells #[.slice A0 n0 k0,.string sq,.string sm] 25)).heap.size:=by simp;omega
 go_wp2_with fail
 refine leaves_cons (f:=20) (args:=#[.pointer (some ⟨w.heap.size+1,0,none⟩)]) (by simp) (by simp [go_sem]) ?_;refine (L9 ⟨w.heap.size+1,0,none⟩ 0 2 [] _ e0 e1 hlt5).mono ?_;rintro e u' w'' ⟨rfl,rfl,rfl⟩;refine Qm rfl (b4:=w.heap.size) (b5:=w.heap.size+1) (u:=.int .i64 2) ?_ ?_ rfl rfl ⟨rfl,?_⟩
 · rw [Below.heap_setCell _ _ _ _ (Nat.ne_of_lt (Nat.lt_succ_self _)),Below.heap_alloc _ _ _ (by omega)];exact A6.out.1
 · exact heap_setCell_same _ _ 0 _ _ _ ((Below.heap_alloc _ _ _ hlt5).trans A6.out.2.1)
 · exact ((B4.out.alloc B4.out.size _).alloc (by have:=B4.out.size;simp;omega) _).setCell (Nat.le_succ _) _
theorem Zva (s:ByteArray) (w:World) (hs:s.size≤9000) (h3:Ue w) (h5:Ve w) (ts:List (Int × List UInt8)) (hl:ts.length≤200000) (R:Except Int (Ub × List Tok))
  (HT:∀ g wx,Below w.heap.size w wx→w.heap.size≤g→Rd wx g (C8 ts) 0→KRd g wx→Calls Tryz.prog 9 #[.pointer (some ⟨g,0,none⟩)] wx (Ca g 0 wx (N9 Xw) R))
  (hr:Zz s.data.toList=(ts,0)) (a:Ub) (hR:R=.ok (a,[])):Calls Tryz.prog 8 #[.string s,.func (.func 9) #[] #[]] w fun e w'=>∃ cs:List Value,e=.returned (.tuple #[.agg cs.toArray,.int .i64 0])∧TS w' (Y7 w w') (Xw a) cs∧Below w.heap.size w w':=by
 have hmf:∀ (fn:Fn) (first cap:Array Value) (w:World),(Instr.makeFunc fn first cap).run Tryz.prog w=.ok (.func fn first cap) w:=fun _ _ _ _=>rfl;have HR:=fun wx (hb:Below w.heap.size w wx)=>Hd (by have:=Dm s wx hs (h3.below hb);rw [hr] at this;exact this);have HTT:=Hd HT;have B0:=Hd (Fm w (.cells #[.slice none 0 0,.string ⟨#[]⟩,.string ⟨#[]⟩] 25) (.cells #[.int .i64 0] 26));obtain ⟨y0,y1⟩:=Dj w (.cells #[.slice none 0 0,.string ⟨#[]⟩,.string ⟨#[]⟩] 25) (.cells #[.int .i64 0] 26);have Y:=Hd (And.intro y0 y1);have hsz:Hid (((w.alloc (.cells #[.slice none 0 0,.string ⟨#[]⟩,.string ⟨#[]⟩] 25)).alloc (.cells #[.int .i64 0] 26)).heap.size=w.heap.size+2):=Hd (by simp);have H5:=Hd h5;clear hr HT y0 y1
 go_enter_defers Tryz.func8,Tryz.ntmps8
 go_wp2_with fail
 refine (HR _ B0.out).out.mono ?_;rintro e w2 ⟨A,cap,rfl,hown,hb2⟩;have z4:=(hb2.block w.heap.size (by have:=hsz.out;omega)).trans Y.out.1;have z5:=(hb2.block (w.heap.size+1) (by have:=hsz.out;omega)).trans Y.out.2;obtain ⟨k0q,k1q,k2q,kz⟩:=Zf z4;have kf0:=kz 0;have kf1:=kz 1;have kf2:=kz 2;clear kz;obtain ⟨e0,e1⟩:=Uf z5;have Z:=Hd (And.intro z4 z5);have B2:=Hd (B0.out.trans (hb2.mono (by have:=hsz.out;omega)));have OW:=Hd hown;clear hb2 hown z4 z5;go_wp2_with fail
 have R3:=Hd (Sf (w:=w) OW.out hl (Nat.le_of_eq hsz.out.symm) (v:=.int .i64 0));have D3:=Hd (Wm Z.out.1 Z.out.2 (v:=.int .i64 0) (o:=.cells #[.slice A ts.length cap,.int .i64 0] 57));have KR:=Hd (show KRd w2.heap.size _ from ⟨w,H5.out,by have:=D3.out.2.2.2.1;omega,Vi B2.out D3.out.2.2.1 (Z0.refl _ _) D3.out.2.2.2.1⟩);refine (HTT.out _ _ (Vi B2.out D3.out.2.2.1 (Z0.refl _ _) D3.out.2.2.2.1) (by have:=D3.out.2.2.2.1;omega) R3.out KR.out).mono ?_;rw [hR];intro e w4 h;obtain ⟨⟨v,rfl,hly⟩,r4,m4⟩:=Uv h;obtain ⟨A0,n0,k0,sq,sm,rfl,hts⟩:=Qt hly;have z4:=m4.keep D3.out.1 (by have:=D3.out.2.2.2.1;omega);have z5:=m4.keep D3.out.2.1 (by have:=D3.out.2.2.2.1;omega);have B4:=Hd (Vi B2.out D3.out.2.2.1 m4 D3.out.2.2.2.1);have Z4:=Hd (And.intro z4 z5);have TT:=Hd hts;have HE:=Hd (fun wx (hb:Below w4.heap.size w4 wx)=>Vb w2.heap.size [] 0 wx (r4.below hb));have hlt4:w.heap.size+1 < w4.heap.size:=(Array.getElem?_eq_some_iff.1 z5).1;clear e0 e1 k0q kf0 k1q kf1 k2q kf2 z4 z5 r4 m4 hly hts h;go_wp2_with fail
 refine (HE.out _ (blw _ _)).mono ?_;rintro e w5 ⟨rfl,rfl⟩;have A6:=Hd (Ok Z4.out.1 Z4.out.2 (o:=.cells #[.slice A0 n0 k0,.string sq,.string sm] 25));obtain ⟨k0q,k1q,k2q,kz⟩:=Zf A6.out.1;have kf0:=kz 0;have kf1:=kz 1;have kf2:=kz 2;clear kz;obtain ⟨e0,e1⟩:=Uf A6.out.2.1;obtain ⟨j0q,j1q,j2q,jz⟩:=Zf A6.out.2.2;have jf0:=jz 0;have jf1:=jz 1;have jf2:=jz 2;clear jz;go_wp2_with fail
 refine leaves_cons (f:=20) (args:=#[.pointer (some ⟨w.heap.size+1,0,none⟩)]) (by simp) (by simp [go_sem]) ?_;refine (Zjh ⟨w.heap.size+1,0,none⟩ _).mono ?_;rintro e u' w'' ⟨rfl,rfl,rfl⟩;have f1:=Yu (b:=w.heap.size) (t:=25) (ys:=[.slice none 0 0,.string ⟨#[]⟩,.string ⟨#[]⟩]) (xs:=[.slice A0 n0 k0,.string sq,.string sm]) rfl A6.out.1;have f2:=(Xk (b:=w.heap.size) (k:=w.heap.size+1) (by omega) [.slice A0 n0 k0,.string sq,.string sm] 0 _).trans A6.out.2.1;have f3:=Ja (Nat.le_refl _) [.slice A0 n0 k0,.string sq,.string sm] 0 _ (B4.out.alloc B4.out.size (.cells #[.slice A0 n0 k0,.string sq,.string sm] 25));refine Qm rfl (b4:=w.heap.size) (b5:=w.heap.size+1) (u:=.int .i64 0) ((Below.heap_setCell _ _ _ _ (Nat.ne_of_lt (Nat.lt_succ_self _))).trans f1) (heap_setCell_same _ _ 0 _ _ _ f2) rfl rfl ⟨_,rfl,Zyq (w:=w) (xs:=[.slice A0 n0 k0,.string sq,.string sm]) (o:=.cells #[.slice A0 n0 k0,.string sq,.string sm] 25) (v:=.int .i64 0) TT.out (by have h8:=D3.out.2.2.2.1;have h9:=D3.out.2.2.2.2;omega),f3.setCell (Nat.le_succ _) _⟩
theorem Zy3 (s:ByteArray) (w:World) (hs:s.size≤9000) (h3:Ue w) (ts:List (Int × List UInt8)) (x:Int) (hx:x ≠ 0) (hr:Zz s.data.toList=(ts,x)):Calls Tryz.prog 8 #[.string s,.func (.func 9) #[] #[]] w fun e w'=>e=.returned (.tuple #[.agg #[.slice none 0 0,.string ⟨#[]⟩,.string ⟨#[]⟩],.int .i64 x])∧Below w.heap.size w w':=by
 have HR:=fun wx (hb:Below w.heap.size w wx)=>Hd (by have:=Dm s wx hs (h3.below hb);rw [hr] at this;exact this);have B0:=Hd (Fm w (.cells #[.slice none 0 0,.string ⟨#[]⟩,.string ⟨#[]⟩] 25) (.cells #[.int .i64 0] 26));obtain ⟨y0,y1⟩:=Dj w (.cells #[.slice none 0 0,.string ⟨#[]⟩,.string ⟨#[]⟩] 25) (.cells #[.int .i64 0] 26);have Y:=Hd (And.intro y0 y1);have hsz:Hid (((w.alloc (.cells #[.slice none 0 0,.string ⟨#[]⟩,.string ⟨#[]⟩] 25)).alloc (.cells #[.int .i64 0] 26)).heap.size=w.heap.size+2):=Hd (by simp);have hx':(x != 0)=true:=by simpa using hx
 clear hr y0 y1 hx
 go_enter_defers Tryz.func8,Tryz.ntmps8
 go_wp2_with fail
 refine (HR _ B0.out).out.mono ?_;rintro e w2 ⟨A,cap,rfl,hown,hb2⟩;have z4:=(hb2.block w.heap.size (by have:=hsz.out;omega)).trans Y.out.1;have z5:=(hb2.block (w.heap.size+1) (by have:=hsz.out;omega)).trans Y.out.2;obtain ⟨k0q,k1q,k2q,kz⟩:=Zf z4;have kf0:=kz 0;have kf1:=kz 1;have kf2:=kz 2;clear kz;obtain ⟨e0,e1⟩:=Uf z5;have Z:=Hd (And.intro z4 z5);have B2:=Hd (B0.out.trans (hb2.mono (by have:=hsz.out;omega)));clear hb2 hown z4 z5;go_wp2_with fail
 have D:=Hd (show (w2.setCell ⟨w.heap.size+1,0,none⟩ (.int .i64 x)).heap[w.heap.size]? = some (.cells #[.slice none 0 0,.string ⟨#[]⟩,.string ⟨#[]⟩] 25 (0,0))∧(w2.setCell ⟨w.heap.size+1,0,none⟩ (.int .i64 x)).heap[w.heap.size+1]? = some (.cells #[.int .i64 x] 26 (0,0)) from ⟨V6 Z.out.1 (by omega),heap_setCell_same _ _ 0 _ _ _ Z.out.2⟩);clear k0q kf0 k1q kf1 k2q kf2 e0 e1;have BD:=Hd (B2.out.setCell (p:=⟨w.heap.size+1,0,none⟩) (Nat.le_succ _) (.int .i64 x));obtain ⟨k0q,k1q,k2q,kz⟩:=Zf D.out.1;have kf0:=kz 0;have kf1:=kz 1;have kf2:=kz 2;clear kz;obtain ⟨e0,e1⟩:=Uf D.out.2;generalize (w2.setCell ⟨w.heap.size+1,0,none⟩ (.int .i64 x))=w3 at *
 go_region
 go_wp2_with fail
 simp only [bodyPostD];have f1:=Yu (b:=w.heap.size) (t:=25) (ys:=[.slice none 0 0,.string ⟨#[]⟩,.string ⟨#[]⟩]) (xs:=[.slice none 0 0,.string ⟨#[]⟩,.string ⟨#[]⟩]) rfl D.out.1;have f2:=(Xk (b:=w.heap.size) (k:=w.heap.size+1) (by omega) [.slice none 0 0,.string ⟨#[]⟩,.string ⟨#[]⟩] 0 _).trans D.out.2;have f3:=Ja (Nat.le_refl _) [.slice none 0 0,.string ⟨#[]⟩,.string ⟨#[]⟩] 0 _ BD.out;refine Qm rfl (b4:=w.heap.size) (b5:=w.heap.size+1) (q0:=.slice none 0 0) (q1:=.string ⟨#[]⟩) (q2:=.string ⟨#[]⟩) (u:=.int .i64 x) ((Below.heap_setCell _ _ _ _ (Nat.ne_of_lt (Nat.lt_succ_self _))).trans f1) (heap_setCell_same _ _ 0 _ _ _ f2) rfl rfl ⟨rfl,?_⟩
 · exact Below.drew (f3.setCell (Nat.le_succ _) _)
end Go.Proofs.YtkmloefbkgcbkaaGreatDoor
