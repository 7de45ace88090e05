/- seineref6.SameField over equal trees. (gen_sdsame.py wrote it.) -/
import Derived.Test.YtkacnnhdfkpenaaGreatDoorSj44
set_option maxRecDepth 100000
set_option maxHeartbeats 8000000
namespace Go.Proofs.YtkacnnhdfkpenaaGreatDoor
open Go.RowKit
def BK6 (w:World) (x y:Nat) (c0 c1 c2 c3 c4 c5 d0 d1 d2 d3 d4 d5:Value) (W:World):Prop:=
 (W.cell? ⟨x,0,none⟩=some c0∧W.cell? ⟨x,1,none⟩=some c1∧W.cell? ⟨x,2,none⟩=some c2∧W.cell? ⟨x,3,none⟩=some c3∧W.cell? ⟨x,4,none⟩=some c4∧W.cell? ⟨x,5,none⟩=some c5∧W.cell? ⟨y,0,none⟩=some d0∧W.cell? ⟨y,1,none⟩=some d1∧W.cell? ⟨y,2,none⟩=some d2∧W.cell? ⟨y,3,none⟩=some d3∧W.cell? ⟨y,4,none⟩=some d4∧W.cell? ⟨y,5,none⟩=some d5)∧x < W.heap.size∧y < W.heap.size∧Below w.heap.size w W
theorem BK6.cells {w W:World} {x y:Nat} {c0 c1 c2 c3 c4 c5 d0 d1 d2 d3 d4 d5:Value} (h:BK6 w x y c0 c1 c2 c3 c4 c5 d0 d1 d2 d3 d4 d5 W):W.cell? ⟨x,0,none⟩=some c0∧W.cell? ⟨x,1,none⟩=some c1∧W.cell? ⟨x,2,none⟩=some c2∧W.cell? ⟨x,3,none⟩=some c3∧W.cell? ⟨x,4,none⟩=some c4∧W.cell? ⟨x,5,none⟩=some c5∧W.cell? ⟨y,0,none⟩=some d0∧W.cell? ⟨y,1,none⟩=some d1∧W.cell? ⟨y,2,none⟩=some d2∧W.cell? ⟨y,3,none⟩=some d3∧W.cell? ⟨y,4,none⟩=some d4∧W.cell? ⟨y,5,none⟩=some d5:=h.1
theorem BK6.below {w W:World} {x y:Nat} {c0 c1 c2 c3 c4 c5 d0 d1 d2 d3 d4 d5:Value} (h:BK6 w x y c0 c1 c2 c3 c4 c5 d0 d1 d2 d3 d4 d5 W):Below w.heap.size w W:=h.2.2.2
theorem BK6.next {w W W':World} {x y:Nat} {c0 c1 c2 c3 c4 c5 d0 d1 d2 d3 d4 d5:Value} (h:BK6 w x y c0 c1 c2 c3 c4 c5 d0 d1 d2 d3 d4 d5 W) (hb:Below W.heap.size W W'):BK6 w x y c0 c1 c2 c3 c4 c5 d0 d1 d2 d3 d4 d5 W':=by
 obtain ⟨⟨g0,g1,g2,g3,g4,g5,f0,f1,f2,f3,f4,f5⟩,hx,hy,hB⟩:=h
 exact ⟨⟨(hb.cell (p:=⟨x,_,none⟩) hx).trans g0,(hb.cell (p:=⟨x,_,none⟩) hx).trans g1,(hb.cell (p:=⟨x,_,none⟩) hx).trans g2,(hb.cell (p:=⟨x,_,none⟩) hx).trans g3,(hb.cell (p:=⟨x,_,none⟩) hx).trans g4,(hb.cell (p:=⟨x,_,none⟩) hx).trans g5,(hb.cell (p:=⟨y,_,none⟩) hy).trans f0,(hb.cell (p:=⟨y,_,none⟩) hy).trans f1,(hb.cell (p:=⟨y,_,none⟩) hy).trans f2,(hb.cell (p:=⟨y,_,none⟩) hy).trans f3,(hb.cell (p:=⟨y,_,none⟩) hy).trans f4,(hb.cell (p:=⟨y,_,none⟩) hy).trans f5⟩,Nat.lt_of_lt_of_le hx hb.size,Nat.lt_of_lt_of_le hy hb.size,hB.trans (hb.mono hB.size)⟩
theorem BK6.start (w:World) (c0 c1 c2 c3 c4 c5 d0 d1 d2 d3 d4 d5:Value) (t:TypeId):BK6 w (w.heap.size) (w.heap.size+1) c0 c1 c2 c3 c4 c5 d0 d1 d2 d3 d4 d5 ((w.alloc (.cells #[c0,c1,c2,c3,c4,c5] t)).alloc (.cells #[d0,d1,d2,d3,d4,d5] t)):=by
 have k0:((w.alloc (.cells #[c0,c1,c2,c3,c4,c5] t)).alloc (.cells #[d0,d1,d2,d3,d4,d5] t)).heap[w.heap.size]? = some (.cells #[c0,c1,c2,c3,c4,c5] t):=by
  show ((w.alloc (.cells #[c0,c1,c2,c3,c4,c5] t)).alloc (.cells #[d0,d1,d2,d3,d4,d5] t)).heap[w.heap.size]? = _
  rw [Below.heap_alloc _ _ _ (by simp)]
  show (w.heap.push _)[w.heap.size]? = _;simp
 have k1:((w.alloc (.cells #[c0,c1,c2,c3,c4,c5] t)).alloc (.cells #[d0,d1,d2,d3,d4,d5] t)).heap[w.heap.size+1]? = some (.cells #[d0,d1,d2,d3,d4,d5] t):=by
  show ((w.heap.push _).push _)[w.heap.size+1]? = _
  rw [Array.getElem?_push,if_pos (by simp)]
 refine ⟨⟨?_,?_,?_,?_,?_,?_,?_,?_,?_,?_,?_,?_⟩,?_,?_,((Below.refl _ _).alloc (Nat.le_refl _) _).alloc (by simp) _⟩
 all_goals first|(simp only [World.cell?];first|(rw [k0];rfl)|(rw [k1];rfl))|(show _ < ((w.heap.push _).push _).size;simp;done)|(show _ < ((w.heap.push _).push _).size;simp;omega)
def FieldAt (w:World) (B:Nat) (ps:List VarT) (d:List DirT) (Ap Ad:Option Addr):Prop:=
 ps.length≤9223372036854775807∧d.length≤9223372036854775807∧RowT w (fun b=>b < B) (rowOf encVar ps) Ap∧RowT w (fun b=>b < B) (rowOf encD d) Ad
theorem FieldAt.below {w w':World} {B:Nat} (hb:Below B w w') {ps:List VarT} {d:List DirT} {Ap Ad:Option Addr} (h:FieldAt w B ps d Ap Ad):FieldAt w' B ps d Ap Ad:=
 ⟨h.1,h.2.1,RowT.below hb h.2.2.1,RowT.below hb h.2.2.2⟩
theorem field_at {w:World} {B:Nat} {l:List FieldT} {A:Option Addr} {q:Nat} {nm tn:ByteArray} {tl tm:Nat} {ps:List VarT} {ds:List DirT} (h:RowT w (fun b=>b < B) (rowOf encField l) A) (hx:l[q]? = some ⟨nm,ps,tn,tl,tm,ds⟩) :
  ∃ b p Ap kp Ad kd,A=some ⟨b,p,none⟩∧b < B∧(w.cell? ⟨b,p+q*6,none⟩=some (.string nm)∧w.cell? ⟨b,p+q*6+1,none⟩=some (.slice Ap ps.length kp)∧w.cell? ⟨b,p+q*6+2,none⟩=some (.string tn)∧w.cell? ⟨b,p+q*6+3,none⟩=some (.int .i64 (tl:Int))∧w.cell? ⟨b,p+q*6+4,none⟩=some (.int .i64 (tm:Int))∧w.cell? ⟨b,p+q*6+5,none⟩=some (.slice Ad ds.length kd))∧FieldAt w B ps ds Ap Ad:=by
 obtain ⟨b,p,cs,e,hb,hc,h1⟩:=rowOf_at 6 (fun _=>rfl) h hx
 simp only [encField,TS,TP] at h1
 obtain ⟨c0,_,rfl,⟨rfl,_⟩,c1,_,rfl,⟨Ap,kp,rfl,hpl,hP⟩,c2,_,rfl,⟨rfl,_⟩,c3,_,rfl,⟨rfl,_⟩,c4,_,rfl,⟨rfl,_⟩,c5,_,rfl,⟨Ad,kd,rfl,hdl,hD⟩,rfl⟩:=h1
 rw [rowOf_len] at hpl hdl
 rw [rowOf_len,rowOf_len] at hc
 exact ⟨b,p,Ap,kp,Ad,kd,e,hb,⟨hc 0 _ rfl,hc 1 _ rfl,hc 2 _ rfl,hc 3 _ rfl,hc 4 _ rfl,hc 5 _ rfl⟩,hpl,hdl,hP,hD⟩
theorem sfield_yes (nm tn:ByteArray) (tl tm:Nat) (ps:List VarT) (ds:List DirT) (Ap Ap' Ad Ad':Option Addr) (kp kp' kd kd':Nat) (w:World) (B:Nat) (hB:B≤w.heap.size) (h1:FieldAt w B ps ds Ap Ad) (h2:FieldAt w B ps ds Ap' Ad') :
  Calls Tryz.prog 108 #[.agg #[.string nm,.slice Ap ps.length kp,.string tn,.int .i64 (tl:Int),.int .i64 (tm:Int),.slice Ad ds.length kd],.agg #[.string nm,.slice Ap' ps.length kp',.string tn,.int .i64 (tl:Int),.int .i64 (tm:Int),.slice Ad' ds.length kd']] w fun e w'=>e=.returned (.bool true)∧Below w.heap.size w w':=by
 have S1:=Hd h1
 have S2:=Hd h2
 have HB0:=Hd hB
 clear h1 h2 hB
 have eA:(nm.toList == nm.toList)=true:=by simp
 have eN:(tn.toList == tn.toList)=true:=by simp
 go_enter Tryz.func108,Tryz.ntmps108
 have hW0:=Hd (BK6.start w (.string nm) (.slice Ap ps.length kp) (.string tn) (.int .i64 (tl:Int)) (.int .i64 (tm:Int)) (.slice Ad ds.length kd) (.string nm) (.slice Ap' ps.length kp') (.string tn) (.int .i64 (tl:Int)) (.int .i64 (tm:Int)) (.slice Ad' ds.length kd') 140)
 go_wp2_with fail
 have hB1:=hW0.out.below
 refine (spars_yes ps Ap Ap' kp kp' _ B (Nat.le_trans HB0.out hB1.size) S1.out.1 (FieldAt.below (hB1.mono HB0.out) S1.out).2.2.1 (FieldAt.below (hB1.mono HB0.out) S2.out).2.2.1).mono ?_
 rintro e w3 ⟨rfl,hb3⟩
 have hW3:=Hd (BK6.next hW0.out hb3)
 clear hW0 hB1 hb3
 have hc0:=hW3.out.cells
 obtain ⟨g0,g1,g2,g3,g4,g5,f0,f1,f2,f3,f4,f5⟩:=hc0
 have hB1:=hW3.out.below
 go_wp2_with fail
 refine (dirs_yes ds Ad Ad' kd kd' _ B (Nat.le_trans HB0.out hB1.size) S1.out.2.1 (FieldAt.below (hB1.mono HB0.out) S1.out).2.2.2 (FieldAt.below (hB1.mono HB0.out) S2.out).2.2.2).mono ?_
 rintro e w4 ⟨rfl,hb4⟩
 have hW4:=Hd (BK6.next hW3.out hb4).below
 clear g0 g1 g2 g3 g4 g5 f0 f1 f2 f3 f4 f5 hW3 hB1 hb4
 go_wp2_with fail
 go_ret
 exact ⟨rfl,hW4.out⟩
def KS66 (w:World) (s0 s1 s2 s3 s4 s5 r0 r1 r2 r3 r4 r5:Value) (b O:Nat) (c0 c1 c2 c3 c4 c5:Value) (b' O':Nat) (d0 d1 d2 d3 d4 d5:Value) (W:World):Prop:=
 (W.cell? ⟨b,O,none⟩=some c0∧W.cell? ⟨b,O+1,none⟩=some c1∧W.cell? ⟨b,O+2,none⟩=some c2∧W.cell? ⟨b,O+3,none⟩=some c3∧W.cell? ⟨b,O+4,none⟩=some c4∧W.cell? ⟨b,O+5,none⟩=some c5∧W.cell? ⟨b',O',none⟩=some d0∧W.cell? ⟨b',O'+1,none⟩=some d1∧W.cell? ⟨b',O'+2,none⟩=some d2∧W.cell? ⟨b',O'+3,none⟩=some d3∧W.cell? ⟨b',O'+4,none⟩=some d4∧W.cell? ⟨b',O'+5,none⟩=some d5)∧BK6 w w.heap.size (w.heap.size+1) s0 s1 s2 s3 s4 s5 r0 r1 r2 r3 r4 r5 W
theorem KS66.next {w W:World} {s0 s1 s2 s3 s4 s5 r0 r1 r2 r3 r4 r5:Value} {b O:Nat} {c0 c1 c2 c3 c4 c5:Value} {b' O':Nat} {d0 d1 d2 d3 d4 d5:Value} {W':World} (h:KS66 w s0 s1 s2 s3 s4 s5 r0 r1 r2 r3 r4 r5 b O c0 c1 c2 c3 c4 c5 b' O' d0 d1 d2 d3 d4 d5 W) (hl:b < w.heap.size) (hl':b' < w.heap.size) (hb:Below W.heap.size W W'):KS66 w s0 s1 s2 s3 s4 s5 r0 r1 r2 r3 r4 r5 b O c0 c1 c2 c3 c4 c5 b' O' d0 d1 d2 d3 d4 d5 W':=by
 obtain ⟨⟨g0,g1,g2,g3,g4,g5,f0,f1,f2,f3,f4,f5⟩,hK⟩:=h
 have g:=Nat.lt_of_lt_of_le hl hK.below.size
 have g':=Nat.lt_of_lt_of_le hl' hK.below.size
 exact ⟨⟨(hb.cell (p:=⟨b,_,none⟩) g).trans g0,(hb.cell (p:=⟨b,_,none⟩) g).trans g1,(hb.cell (p:=⟨b,_,none⟩) g).trans g2,(hb.cell (p:=⟨b,_,none⟩) g).trans g3,(hb.cell (p:=⟨b,_,none⟩) g).trans g4,(hb.cell (p:=⟨b,_,none⟩) g).trans g5,(hb.cell (p:=⟨b',_,none⟩) g').trans f0,(hb.cell (p:=⟨b',_,none⟩) g').trans f1,(hb.cell (p:=⟨b',_,none⟩) g').trans f2,(hb.cell (p:=⟨b',_,none⟩) g').trans f3,(hb.cell (p:=⟨b',_,none⟩) g').trans f4,(hb.cell (p:=⟨b',_,none⟩) g').trans f5⟩,hK.next hb⟩
theorem KS66.written {w W:World} {s0 s1 s2 s3 s4 s5 r0 r1 r2 r3 r4 r5:Value} {b O:Nat} {c0 c1 c2 c3 c4 c5:Value} {b' O':Nat} {d0 d1 d2 d3 d4 d5:Value} (h:KS66 w s0 s1 s2 s3 s4 s5 r0 r1 r2 r3 r4 r5 b O c0 c1 c2 c3 c4 c5 b' O' d0 d1 d2 d3 d4 d5 W):W.cell? ⟨w.heap.size,3,none⟩=some s3∧W.cell? ⟨w.heap.size+1,3,none⟩=some r3∧W.cell? ⟨b,O,none⟩=some c0∧W.cell? ⟨b,O+1,none⟩=some c1∧W.cell? ⟨b,O+2,none⟩=some c2∧W.cell? ⟨b,O+3,none⟩=some c3∧W.cell? ⟨b,O+4,none⟩=some c4∧W.cell? ⟨b,O+5,none⟩=some c5∧W.cell? ⟨b',O',none⟩=some d0∧W.cell? ⟨b',O'+1,none⟩=some d1∧W.cell? ⟨b',O'+2,none⟩=some d2∧W.cell? ⟨b',O'+3,none⟩=some d3∧W.cell? ⟨b',O'+4,none⟩=some d4∧W.cell? ⟨b',O'+5,none⟩=some d5∧KS66 w s0 s1 s2 s3 s4 s5 r0 r1 r2 r3 r4 r5 b O c0 c1 c2 c3 c4 c5 b' O' d0 d1 d2 d3 d4 d5 W:=by
 have h':=h
 obtain ⟨⟨g0,g1,g2,g3,g4,g5,f0,f1,f2,f3,f4,f5⟩,hK⟩:=h
 obtain ⟨x0,x1,x2,x3,x4,x5,y0,y1,y2,y3,y4,y5⟩:=hK.cells
 exact ⟨x3,y3,g0,g1,g2,g3,g4,g5,f0,f1,f2,f3,f4,f5,h'⟩
def DefnAt (w:World) (B:Nat) (fs:List ByteArray) (fl:List FieldT) (qs:List ByteArray) (ps:List VarT) (Af Al Aq Ap:Option Addr):Prop:=
 (fs.length≤9223372036854775807∧fl.length≤9223372036854775807∧qs.length≤9223372036854775807∧ps.length≤9223372036854775807)∧RowT w (fun b=>b < B) (rowOf encStr fs) Af∧RowT w (fun b=>b < B) (rowOf encField fl) Al∧RowT w (fun b=>b < B) (rowOf encStr qs) Aq∧RowT w (fun b=>b < B) (rowOf encVar ps) Ap
theorem DefnAt.below {w w':World} {B:Nat} (hb:Below B w w') {fs:List ByteArray} {fl:List FieldT} {qs:List ByteArray} {ps:List VarT} {Af Al Aq Ap:Option Addr} (h:DefnAt w B fs fl qs ps Af Al Aq Ap):DefnAt w' B fs fl qs ps Af Al Aq Ap:=
 ⟨h.1,RowT.below hb h.2.1,RowT.below hb h.2.2.1,RowT.below hb h.2.2.2.1,RowT.below hb h.2.2.2.2⟩
theorem def_at {w:World} {B:Nat} {l:List DefnT} {A:Option Addr} {q:Nat} {k:Int} {nm:ByteArray} {fs:List ByteArray} {fl:List FieldT} {qs:List ByteArray} {ps:List VarT} (h:RowT w (fun b=>b < B) (rowOf encDefn l) A) (hx:l[q]? = some ⟨k,nm,fs,fl,qs,ps⟩) :
  ∃ b p Af kf Al kl Aq kq Ap kp,A=some ⟨b,p,none⟩∧b < B∧(w.cell? ⟨b,p+q*6,none⟩=some (.int .i64 k)∧w.cell? ⟨b,p+q*6+1,none⟩=some (.string nm)∧w.cell? ⟨b,p+q*6+2,none⟩=some (.slice Af fs.length kf)∧w.cell? ⟨b,p+q*6+3,none⟩=some (.slice Al fl.length kl)∧w.cell? ⟨b,p+q*6+4,none⟩=some (.slice Aq qs.length kq)∧w.cell? ⟨b,p+q*6+5,none⟩=some (.slice Ap ps.length kp))∧DefnAt w B fs fl qs ps Af Al Aq Ap:=by
 obtain ⟨b,p,cs,e,hb,hc,h1⟩:=rowOf_at 6 (fun _=>rfl) h hx
 simp only [encDefn,TS,TP] at h1
 obtain ⟨c0,_,rfl,⟨rfl,_⟩,c1,_,rfl,⟨rfl,_⟩,c2,_,rfl,⟨Af,kf,rfl,hfl,hF⟩,c3,_,rfl,⟨Al,kl,rfl,hll,hL⟩,c4,_,rfl,⟨Aq,kq,rfl,hql,hQ⟩,c5,_,rfl,⟨Ap,kp,rfl,hpl,hP⟩,rfl⟩:=h1
 rw [rowOf_len] at hfl hll hql hpl
 rw [rowOf_len,rowOf_len,rowOf_len,rowOf_len] at hc
 exact ⟨b,p,Af,kf,Al,kl,Aq,kq,Ap,kp,e,hb,⟨hc 0 _ rfl,hc 1 _ rfl,hc 2 _ rfl,hc 3 _ rfl,hc 4 _ rfl,hc 5 _ rfl⟩,⟨hfl,hll,hql,hpl⟩,hF,hL,hQ,hP⟩
theorem sdef_yes (k:Int) (nm:ByteArray) (fs:List ByteArray) (fl:List FieldT) (qs:List ByteArray) (ps:List VarT) (Af Af' Al Al' Aq Aq' Ap Ap':Option Addr) (kf kf' kl kl' kq kq' kp kp':Nat) (w:World) (B:Nat) (hB:B≤w.heap.size) (h1:DefnAt w B fs fl qs ps Af Al Aq Ap) (h2:DefnAt w B fs fl qs ps Af' Al' Aq' Ap') :
  Calls Tryz.prog 44 #[.agg #[.int .i64 k,.string nm,.slice Af fs.length kf,.slice Al fl.length kl,.slice Aq qs.length kq,.slice Ap ps.length kp],.agg #[.int .i64 k,.string nm,.slice Af' fs.length kf',.slice Al' fl.length kl',.slice Aq' qs.length kq',.slice Ap' ps.length kp']] w fun e w'=>e=.returned (.bool true)∧Below w.heap.size w w':=by
 have S1:=Hd h1
 have S2:=Hd h2
 have R1:=Hd h1.2.2.1
 have R2:=Hd h2.2.2.1
 have hfl:=h1.1.2.1
 have HB0:=Hd hB
 clear h1 h2 hB
 have eK:(k != k)=false:=by simp
 have eN:(nm.toList != nm.toList)=false:=by simp
 have eL:((fl.length:Int) != (fl.length:Int))=false:=by simp
 go_enter Tryz.func44,Tryz.ntmps44
 have hW0:=Hd (BK6.start w (.int .i64 k) (.string nm) (.slice Af fs.length kf) (.slice Al fl.length kl) (.slice Aq qs.length kq) (.slice Ap ps.length kp) (.int .i64 k) (.string nm) (.slice Af' fs.length kf') (.slice Al' fl.length kl') (.slice Aq' qs.length kq') (.slice Ap' ps.length kp') 68)
 go_wp2_with fail
 have hB1:=hW0.out.below
 refine (texts_yes fs Af Af' kf kf' _ B (Nat.le_trans HB0.out hB1.size) S1.out.1.1 (DefnAt.below (hB1.mono HB0.out) S1.out).2.1 (DefnAt.below (hB1.mono HB0.out) S2.out).2.1).mono ?_
 rintro e w1 ⟨rfl,hb3⟩
 have hW1:=Hd (BK6.next hW0.out hb3)
 clear hW0 hB1 hb3
 have hc0:=hW1.out.cells
 obtain ⟨g0,g1,g2,g3,g4,g5,f0,f1,f2,f3,f4,f5⟩:=hc0
 go_wp2_with fail
 have hB1:=hW1.out.below
 refine (texts_yes qs Aq Aq' kq kq' _ B (Nat.le_trans HB0.out hB1.size) S1.out.1.2.2.1 (DefnAt.below (hB1.mono HB0.out) S1.out).2.2.2.1 (DefnAt.below (hB1.mono HB0.out) S2.out).2.2.2.1).mono ?_
 rintro e w2 ⟨rfl,hb3⟩
 have hW2:=Hd (BK6.next hW1.out hb3)
 clear hW1 hB1 hb3 g0 g1 g2 g3 g4 g5 f0 f1 f2 f3 f4 f5
 have hc0:=hW2.out.cells
 obtain ⟨g0,g1,g2,g3,g4,g5,f0,f1,f2,f3,f4,f5⟩:=hc0
 go_wp2_with fail
 have hB1:=hW2.out.below
 refine (spars_yes ps Ap Ap' kp kp' _ B (Nat.le_trans HB0.out hB1.size) S1.out.1.2.2.2 (DefnAt.below (hB1.mono HB0.out) S1.out).2.2.2.2 (DefnAt.below (hB1.mono HB0.out) S2.out).2.2.2.2).mono ?_
 rintro e w3 ⟨rfl,hb3⟩
 have hW4:=Hd (BK6.next hW2.out hb3)
 clear hW2 hB1 hb3 g0 g1 g2 g3 g4 g5 f0 f1 f2 f3 f4 f5
 have hc0:=hW4.out.cells
 obtain ⟨g0,g1,g2,g3,g4,g5,f0,f1,f2,f3,f4,f5⟩:=hc0
 go_wp2_with fail
 clear g0 g1 g2 g3 g4 g5 f0 f1 f2 f3 f4 f5
 go_loopg [5] fl.length (fun g i wx=>∃ q:Nat,q+g=fl.length∧i=.int .i64 q∧BK6 w w.heap.size (w.heap.size+1) (.int .i64 k) (.string nm) (.slice Af fs.length kf) (.slice Al fl.length kl) (.slice Aq qs.length kq) (.slice Ap ps.length kp) (.int .i64 k) (.string nm) (.slice Af' fs.length kf') (.slice Al' fl.length kl') (.slice Aq' qs.length kq') (.slice Ap' ps.length kp') wx)
 case atStart=>exact ⟨0,by omega,rfl,hW4.out⟩
 case round =>
  clear hW4
  obtain ⟨q,hq,rfl,hb⟩:=hrel
  have HK:=Hd hb
  have HBB:=Hd hb.below
  have hx1:w.heap.size < wr.heap.size:=hb.2.1
  have hx2:w.heap.size+1 < wr.heap.size:=hb.2.2.1
  obtain ⟨_,_,_,q0,_,_,_,_,_,q1,_,_⟩:=hb.cells
  clear hb
  cases gk with
  | zero =>
    obtain rfl:q=fl.length:=by omega
    go_wp2_with fail
    go_ret
    exact ⟨rfl,HBB.out⟩
  | succ g =>
    clear q0 q1
    have hqn:q < fl.length:=by omega
    have hqn':(q:Int) < (fl.length:Int):=by omega
    obtain ⟨⟨nx,px,tn,tl,tm,ds⟩,hv⟩:∃ x,fl[q]? = some x:=⟨_,List.getElem?_eq_getElem hqn⟩
    obtain ⟨b,o,Ax,kx,Ad,kd,rfl,hblt,⟨g0,g1,g2,g3,g4,g5⟩,V1⟩:=field_at (RowT.below (HBB.out.mono HB0.out) R1.out) hv
    obtain ⟨b',o',Ax',kx',Ad',kd',rfl,hblt',⟨f0,f1,f2,f3,f4,f5⟩,V2⟩:=field_at (RowT.below (HBB.out.mono HB0.out) R2.out) hv
    have HBX:=Nat.le_trans HB0.out HBB.out.size
    have HBW:Hid (b < w.heap.size):=Hd (Nat.lt_of_lt_of_le hblt HB0.out)
    have HBW':Hid (b' < w.heap.size):=Hd (Nat.lt_of_lt_of_le hblt' HB0.out)
    have hE0:KS66 w (.int .i64 k) (.string nm) (.slice Af fs.length kf) (.slice (some ⟨b,o,none⟩) fl.length kl) (.slice Aq qs.length kq) (.slice Ap ps.length kp) (.int .i64 k) (.string nm) (.slice Af' fs.length kf') (.slice (some ⟨b',o',none⟩) fl.length kl') (.slice Aq' qs.length kq') (.slice Ap' ps.length kp') b (o+q*6) (.string nx) (.slice Ax px.length kx) (.string tn) (.int .i64 (tl:Int)) (.int .i64 (tm:Int)) (.slice Ad ds.length kd) b' (o'+q*6) (.string nx) (.slice Ax' px.length kx') (.string tn) (.int .i64 (tl:Int)) (.int .i64 (tm:Int)) (.slice Ad' ds.length kd') wr:=⟨⟨g0,g1,g2,g3,g4,g5,f0,f1,f2,f3,f4,f5⟩,HK.out⟩
    have C:=fun (wx:World) (hx:Below wr.heap.size wr wx)=>Hd (sfield_yes nx tn tl tm px ds Ax Ax' Ad Ad' kx kx' kd kd' wx B (Nat.le_trans HBX hx.size) (FieldAt.below (hx.mono HBX) V1) (FieldAt.below (hx.mono HBX) V2))
    have hp:=hE0.written
    clear V1 V2 hv hblt hblt' HBX g0 g1 g2 g3 g4 g5 f0 f1 f2 f3 f4 f5
    obtain ⟨p0,p1,g0,g1,g2,g3,g4,g5,f0,f1,f2,f3,f4,f5,_⟩:=hp
    go_wp2_with fail
    go_region_held3 (fun w'=>w'.cell? ⟨w.heap.size,3,none⟩=some (.slice (some ⟨b,o,none⟩) fl.length kl)∧w'.cell? ⟨w.heap.size+1,3,none⟩=some (.slice (some ⟨b',o',none⟩) fl.length kl')∧w'.cell? ⟨b,o+q*6,none⟩=some (.string nx)∧w'.cell? ⟨b,o+q*6+1,none⟩=some (.slice Ax px.length kx)∧w'.cell? ⟨b,o+q*6+2,none⟩=some (.string tn)∧w'.cell? ⟨b,o+q*6+3,none⟩=some (.int .i64 (tl:Int))∧w'.cell? ⟨b,o+q*6+4,none⟩=some (.int .i64 (tm:Int))∧w'.cell? ⟨b,o+q*6+5,none⟩=some (.slice Ad ds.length kd)∧w'.cell? ⟨b',o'+q*6,none⟩=some (.string nx)∧w'.cell? ⟨b',o'+q*6+1,none⟩=some (.slice Ax' px.length kx')∧w'.cell? ⟨b',o'+q*6+2,none⟩=some (.string tn)∧w'.cell? ⟨b',o'+q*6+3,none⟩=some (.int .i64 (tl:Int))∧w'.cell? ⟨b',o'+q*6+4,none⟩=some (.int .i64 (tm:Int))∧w'.cell? ⟨b',o'+q*6+5,none⟩=some (.slice Ad' ds.length kd')∧KS66 w (.int .i64 k) (.string nm) (.slice Af fs.length kf) (.slice (some ⟨b,o,none⟩) fl.length kl) (.slice Aq qs.length kq) (.slice Ap ps.length kp) (.int .i64 k) (.string nm) (.slice Af' fs.length kf') (.slice (some ⟨b',o',none⟩) fl.length kl') (.slice Aq' qs.length kq') (.slice Ap' ps.length kp') b (o+q*6) (.string nx) (.slice Ax px.length kx) (.string tn) (.int .i64 (tl:Int)) (.int .i64 (tm:Int)) (.slice Ad ds.length kd) b' (o'+q*6) (.string nx) (.slice Ax' px.length kx') (.string tn) (.int .i64 (tl:Int)) (.int .i64 (tm:Int)) (.slice Ad' ds.length kd') w')
     (first
      | exact KS66.written (KS66.next hE0 HBW.out HBW'.out (Below.drew (Below.refl _ _)))
      | exact KS66.written ((KS66.next hE0 HBW.out HBW'.out (Below.drew (Below.refl _ _))).next HBW.out HBW'.out (by assumption))
      | exact KS66.written (KS66.next hE0 HBW.out HBW'.out (by assumption))
      | exact KS66.written (KS66.next (by assumption) HBW.out HBW'.out (by assumption))
      | go_keep)
     ((first|(go_at_call 108;refine (C _ (by first|exact Below.drew (Below.refl _ _)|exact Below.refl _ _|assumption)).out.mono ?_;rintro e w' ⟨rfl,hb⟩)))
    all_goals
     have HKM:KS66 w (.int .i64 k) (.string nm) (.slice Af fs.length kf) (.slice (some ⟨b,o,none⟩) fl.length kl) (.slice Aq qs.length kq) (.slice Ap ps.length kp) (.int .i64 k) (.string nm) (.slice Af' fs.length kf') (.slice (some ⟨b',o',none⟩) fl.length kl') (.slice Aq' qs.length kq') (.slice Ap' ps.length kp') b (o+q*6) (.string nx) (.slice Ax px.length kx) (.string tn) (.int .i64 (tl:Int)) (.int .i64 (tm:Int)) (.slice Ad ds.length kd) b' (o'+q*6) (.string nx) (.slice Ax' px.length kx') (.string tn) (.int .i64 (tl:Int)) (.int .i64 (tm:Int)) (.slice Ad' ds.length kd') w':=And.right (And.right (And.right (And.right (And.right (And.right (And.right (And.right (And.right (And.right (And.right (And.right (And.right (And.right (by assumption))))))))))))))
     have HKB:=Hd HKM.2
     clear HKM hE0 C p0 p1 g0 g1 g2 g3 g4 g5 f0 f1 f2 f3 f4 f5
     go_wp2_with fail
     go_roundg g
     case measure=>omega
     case rel=>exact ⟨q+1,by omega,by go_num,HKB.out⟩
theorem tw_eol (q:UInt8→Bool) (hq:q 10=false) (r:List UInt8):∀ l:List UInt8,(l++10 :: r).takeWhile q=l.takeWhile q
 | []=>by simp [List.takeWhile,hq]
 | b :: t=>by
   rw [List.cons_append,List.takeWhile,List.takeWhile]
   cases q b with
   | true=>simp only;rw [tw_eol q hq r t]
   | false=>rfl
theorem pre_eol (r:List UInt8):∀ (p l:List UInt8),(∀ b ∈ p,b ≠ 10)→pre p (l++10 :: r)=pre p l
 | [],l,_=>by simp [pre]
 | a :: p,[],h=>by
   have:=h a (by simp)
   show (a == 10 && p.isPrefixOf r)=false
   simp [this]
 | a :: p,b :: l,h=>by
   have:=pre_eol r p l (fun b hb=>h b (by simp [hb]))
   unfold pre at this ⊢
   rw [List.cons_append,List.isPrefixOf,List.isPrefixOf,this]
theorem drop_eol {l:List UInt8} {k:Nat} (h:k≤l.length) (r:List UInt8):(l++10 :: r).drop k=l.drop k++10 :: r:=List.drop_append_of_le_length h
theorem take_eol {l:List UInt8} {k:Nat} (h:k≤l.length) (r:List UInt8):(l++10 :: r).take k=l.take k:=List.take_append_of_le_length h
theorem gap_eol (r:List UInt8) {l:List UInt8} (h:l ≠ []):gapL (l++10 :: r)=gapL l:=by
 cases l with
 | nil=>exact absurd rfl h
 | cons b t =>
   have h1:=pre_eol r [239,187,191] (b :: t) (by decide)
   rw [List.cons_append] at h1 ⊢
   rw [gapL,gapL,h1,tw_eol noEol (by decide) r t]
theorem run_eol (r l:List UInt8):runL (l++10 :: r)=runL l:=by unfold runL;rw [tw_eol digU (by decide) r l]
theorem frac_eol (r:List UInt8):∀ l,fracL (l++10 :: r)=fracL l
 | []=>rfl
 | b :: t=>by rw [List.cons_append,fracL,fracL,run_eol]
theorem sign_eol (r:List UInt8):∀ l,signL (l++10 :: r)=signL l
 | []=>rfl
 | _ :: _=>rfl
theorem expo_eol (r:List UInt8):∀ l,expoL (l++10 :: r)=expoL l
 | []=>rfl
 | b :: t=>by
   rw [List.cons_append,expoL,expoL,sign_eol,drop_eol (signL_le t),run_eol]
theorem minus_eol (r:List UInt8):∀ l,minusL (l++10 :: r)=minusL l
 | []=>rfl
 | _ :: _=>rfl
theorem whole_eol (r:List UInt8):∀ l,wholeL (l++10 :: r)=wholeL l
 | []=>by
   show (if (10:UInt8) == 48 then 1 else runL (10 :: r))=0
   rw [if_neg (by decide)]
   exact run_eol r []
 | b :: t=>by
   have:=run_eol r (b :: t)
   rw [List.cons_append] at this ⊢;rw [wholeL,wholeL,this]
theorem numeral_eol (r l:List UInt8):nmL (l++10 :: r)=nmL l:=by
 have h1:=minusL_le l
 have h2:=wholeL_le (l.drop (minusL l))
 rw [List.length_drop] at h2
 have h3:=fracL_le (l.drop (minusL l+wholeL (l.drop (minusL l))))
 rw [List.length_drop] at h3
 unfold nmL
 rw [minus_eol,drop_eol h1,whole_eol,drop_eol (by omega),frac_eol,drop_eol (by omega),expo_eol]
theorem behind_eol (r:List UInt8):∀ l,behindB (l++10 :: r)=behindB l
 | []=>by show (digU 10 || letU 10 || (10:UInt8) == 46)=false;decide
 | _ :: _=>rfl
theorem number_eol (r l:List UInt8):nbL (l++10 :: r)=nbL l:=by
 unfold nbL
 rw [numeral_eol,drop_eol (numeralL_le l),behind_eol]
theorem word_eol (r:List UInt8):∀ l,wordN (l++10 :: r)=wordN l
 | []=>by show (if letU 10 then 1+(r.takeWhile nameU).length else 0)=0;rw [if_neg (by decide)]
 | b :: t=>by rw [List.cons_append,wordN,wordN,tw_eol nameU (by decide) r t]
theorem mark_eol (r:List UInt8) {l:List UInt8} (h:l ≠ []):markN (l++10 :: r)=markN l:=by
 cases l with
 | nil=>exact absurd rfl h
 | cons b t =>
   have h1:=pre_eol r [46,46,46] (b :: t) (by decide)
   rw [List.cons_append] at h1 ⊢
   rw [markN,markN,h1]
theorem unit_eol (r l:List UInt8):unitAt (l++10 :: r)=unitAt l:=by
 have n10:hexB 10=false:=by decide
 match l with
 | []=>cases r with|nil=>rfl|cons _ r=>match r with|[]=>rfl|[_]=>rfl|[_,_]=>rfl|[_,_,_]=>rfl|_ :: _ :: _ :: _ :: _=>simp [unitAt]
 | [a]=>match r with|[]=>rfl|[_]=>rfl|[_,_]=>rfl|[_,_,_]=>rfl|_ :: _ :: _ :: _ :: _=>simp [unitAt]
 | [a,b]=>match r with|[]=>rfl|[_]=>rfl|[_,_]=>rfl|_ :: _ :: _ :: _=>simp [unitAt,n10]
 | [a,b,c]=>match r with|[]=>rfl|[_]=>rfl|_ :: _ :: _=>simp [unitAt,n10]
 | [a,b,c,d]=>match r with|[]=>rfl|_ :: _=>simp [unitAt,n10]
 | [a,b,c,d,e]=>simp [unitAt,n10]
 | _ :: _ :: _ :: _ :: _ :: _ :: _=>rfl
theorem hexRunF_eol (r:List UInt8):∀ (n:Nat) (l:List UInt8),hexRunF n (l++10 :: r)=hexRunF n l
 | 0,_=>rfl
 | n+1,l=>by
   rw [hexRunF,hexRunF,unit_eol]
   cases h:unitAt l with
   | none=>rfl
   | some u=>simp only;rw [drop_eol (unitAt_len h),hexRunF_eol r n]
theorem hexRun_eol (r l:List UInt8):hexRun (l++10 :: r)=hexRun l:=by
 unfold hexRun
 rw [hexRunF_eol,hexRunF_enough _ l.length l (by simp) (Nat.le_refl _)]
theorem esc_eol (r:List UInt8) {l:List UInt8} (h:l ≠ []):escL (l++10 :: r)=escL l:=by
 unfold escL
 rw [hexRun_eol]
 split
 · match l with
   | []=>exact absurd rfl h
   | [a]=>show (escB 10).map _=none;rfl
   | _ :: _ :: _=>rfl
 · rfl
theorem lineF_eol (r:List UInt8):∀ (n m:Nat) (l:List UInt8) (q:List UInt8 × Nat),n≤m→lineF n l=some q→lineF m (l++10 :: r)=some q
 | 0,_,_,_,_,h=>by cases h
 | _+1,_,[],_,_,h=>by cases h
 | n+1,0,_,_,hm,_=>by omega
 | n + 1,m+1,b :: t,q,hm,h=>by
   have he:=esc_eol r (l:=b :: t) (by simp)
   rw [List.cons_append] at he ⊢
   rw [lineF] at h ⊢
   split
   · rename_i h1;rw [if_pos h1] at h;exact h
   · rename_i h1
     rw [if_neg h1] at h
     split
     · rename_i h2;rw [if_pos h2] at h;cases h
     · rename_i h2
       rw [if_neg h2] at h
       split
       · rename_i h3
         rw [if_pos h3] at h
         rw [he]
         cases hp:escL (b :: t) with
         | none=>rw [hp] at h;cases h
         | some p =>
           rw [hp] at h
           simp only at h ⊢
           have hd:=drop_eol (escL_le hp).2 r
           rw [List.cons_append] at hd
           rw [hd]
           cases hx:lineF n ((b :: t).drop p.2) with
           | none=>rw [hx] at h;cases h
           | some x =>
             rw [hx] at h
             rw [lineF_eol r n m _ x (by omega) hx]
             exact h
       · rename_i h3
         rw [if_neg h3] at h
         cases hx:lineF n t with
         | none=>rw [hx] at h;cases h
         | some x =>
           rw [hx] at h
           rw [lineF_eol r n m _ x (by omega) hx]
           exact h
theorem rawF_eol (r:List UInt8):∀ (n m:Nat) (l:List UInt8) (q:List UInt8 × Nat),n≤m→rawF n l=some q→rawF m (l++10 :: r)=some q
 | 0,_,_,_,_,h=>by cases h
 | _+1,_,[],_,_,h=>by cases h
 | n+1,0,_,_,hm,_=>by omega
 | n + 1,m+1,b :: t,q,hm,h=>by
   have p1:=pre_eol r [34,34,34] (b :: t) (by decide)
   have p2:=pre_eol r [92,34,34,34] (b :: t) (by decide)
   rw [List.cons_append] at p1 p2 ⊢
   rw [rawF] at h ⊢
   rw [p1,p2]
   split
   · rename_i h1;rw [if_pos h1] at h;exact h
   · rename_i h1
     rw [if_neg h1] at h
     split
     · rename_i h2
       rw [if_pos h2] at h
       have hd:=drop_eol (show 4≤(b :: t).length from pre_len h2) r
       rw [List.cons_append] at hd
       rw [hd]
       cases hx:rawF n ((b :: t).drop 4) with
       | none=>rw [hx] at h;cases h
       | some x =>
         rw [hx] at h
         rw [rawF_eol r n m _ x (by omega) hx]
         exact h
     · rename_i h2
       rw [if_neg h2] at h
       cases hx:rawF n t with
       | none=>rw [hx] at h;cases h
       | some x =>
         rw [hx] at h
         rw [rawF_eol r n m _ x (by omega) hx]
         exact h
theorem quote_eol (r:List UInt8) {l:List UInt8} {q:List UInt8 × Nat} (h:quoteL l=some q):quoteL (l++10 :: r)=some q:=by
 cases l with
 | nil=>cases h
 | cons b t =>
   have p1:=pre_eol r [34,34,34] (b :: t) (by decide)
   rw [List.cons_append] at p1 ⊢
   rw [quoteL] at h ⊢
   rw [p1]
   split
   · rename_i h1
     rw [if_pos h1] at h
     have hd:=drop_eol (show 3≤(b :: t).length from pre_len h1) r
     rw [List.cons_append] at hd
     rw [hd]
     cases hx:rawL ((b :: t).drop 3) with
     | none=>rw [hx] at h;cases h
     | some x =>
       rw [hx] at h
       have:rawL ((b :: t).drop 3++10 :: r)=some x:=rawF_eol r _ _ _ x (by simp) hx
       rw [this]
       exact h
   · rename_i h1
     rw [if_neg h1] at h
     split
     · rename_i h2
       rw [if_pos h2] at h
       cases hx:lineL t with
       | none=>rw [hx] at h;cases h
       | some x =>
         rw [hx] at h
         have:lineL (t++10 :: r)=some x:=lineF_eol r _ _ _ x (by simp) hx
         rw [this]
         exact h
     · rename_i h2
       rw [if_neg h2] at h
       cases h
theorem tok_eol (r:List UInt8) {l:List UInt8} {p:(Int × List UInt8) × Nat} (h:tokL l=some p):tokL (l++10 :: r)=some p:=by
 have hne:l ≠ []:=fun e=>by have:=tokL_le h;subst e;simp at this;omega
 unfold tokL at h ⊢
 rw [mark_eol r hne,word_eol,number_eol,take_eol (markN_le l),take_eol (wordN_le l),take_eol (numberL_le l)]
 split
 · rename_i h1;rw [if_pos h1] at h;exact h
 · rename_i h1
   rw [if_neg h1] at h
   split
   · rename_i h2;rw [if_pos h2] at h;exact h
   · rename_i h2
     rw [if_neg h2] at h
     split
     · rename_i h3;rw [if_pos h3] at h;exact h
     · rename_i h3
       rw [if_neg h3] at h
       cases hq:quoteL l with
       | none=>rw [hq] at h;cases h
       | some q=>rw [hq] at h;rw [quote_eol r hq];exact h
theorem readF_eol (r:List UInt8):∀ (n:Nat) (l:List UInt8) (ts:List (Int × List UInt8)),readF n l=some ts→readL (l++10 :: r)=(readL r).map (ts ++ ·)
 | 0,_,_,h=>by cases h
 | n + 1,l,ts,h=>by
   by_cases hl:l=[]
   · subst hl
     have:ts=[]:=by
       rw [readF,if_neg (by simp [gapL]),if_pos rfl] at h
       exact (Option.some.inj h).symm
     subst this
     rw [List.nil_append,readL_gap (by simp [gapL,isGap])]
     simp [gapL,isGap]
   · rw [readF] at h
     by_cases hg:gapL l=0
     · rw [if_neg (by simp [hg]),if_neg hl] at h
       cases ht:tokL l with
       | none=>rw [ht] at h;cases h
       | some p =>
         rw [ht] at h
         simp only at h
         cases hr:readF n (l.drop p.2) with
         | none=>rw [hr] at h;cases h
         | some us =>
           rw [hr] at h
           have h:=Option.some.inj h
           rw [readL_tok (by rw [gap_eol r hl,hg]) (by simp) (tok_eol r ht),drop_eol (tokL_le ht).2,readF_eol r n _ us hr,← h]
           cases readL r<;>simp
     · rw [if_pos hg] at h
       rw [readL_gap (by rw [gap_eol r hl];exact hg),gap_eol r hl,drop_eol (gapL_le l),readF_eol r n _ ts h]
theorem readL_join {a b:List UInt8} {ts us:List (Int × List UInt8)} (ha:readL a=some ts) (hb:readL b=some us):readL (a++10 :: b)=some (ts++us):=by
 rw [readF_eol b _ a ts ha,hb]
 rfl
end Go.Proofs.YtkacnnhdfkpenaaGreatDoor
