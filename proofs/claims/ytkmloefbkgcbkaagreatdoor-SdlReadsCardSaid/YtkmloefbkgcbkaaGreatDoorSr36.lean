/- The document's reader of values: lists and maps. (gen_prlist.py wrote it.) -/
import Derived.Test.YtkmloefbkgcbkaaGreatDoorSr35
set_option maxRecDepth 100000
set_option maxHeartbeats 8000000
namespace Go.Proofs.YtkmloefbkgcbkaaGreatDoor
open Go.RowKit
variable {nT:Nat}
def Yad (nT:Nat) (fx:Bool) (d r:Nat) (S:StP) (w:World) (e:Ending) (w':World):Prop:=∃ (vk vn:Int) (vs:ByteArray) (A3:Option Addr) (n3 k3:Nat) (A4:Option Addr) (n4 k4:Nat),e=.returned (.agg #[.int .i64 vk,.int .i64 vn,.string vs,.slice A3 n3 k3,.slice A4 n4 k4])∧Ans M9 w w' (Zb (Im fx d) S) [.int .i64 vk,.int .i64 vn,.string vs,.slice A3 n3 k3,.slice A4 n4 k4]∧RP nT w' r d (Xb (Zb (Im fx d) S))∧Z0 r w w'
def Yqa (nT:Nat) (fx:Bool) (d r:Nat) (S:StP) (w:World) (e:Ending) (w':World):Prop:=∃ (nm:ByteArray) (vk vn:Int) (vs:ByteArray) (A3:Option Addr) (n3 k3:Nat) (A4:Option Addr) (n4 k4:Nat),e=.returned (.agg #[.string nm,.int .i64 vk,.int .i64 vn,.string vs,.slice A3 n3 k3,.slice A4 n4 k4])∧Ans (fun p:ByteArray × VT=>Gj p.1 p.2) w w' (Zb (Co fx d) S) [.string nm,.int .i64 vk,.int .i64 vn,.string vs,.slice A3 n3 k3,.slice A4 n4 k4]∧RP nT w' r d (Xb (Zb (Co fx d) S))∧Z0 r w w'
def Ynv (nT:Nat) (N:Nat):Prop:=∀ (fx:Bool) (d:Nat) (S:StP) (r:Nat) (w:World),(∀ ts,S=.ok ts→Zs ts)→(∀ ts,S=.ok ts→ts.length≤N)→d≤16→RP nT w r d S→Calls Tryz.prog 98 #[.pointer (some ⟨r,0,none⟩),.bool fx] w (Yad nT fx d r S w)
def Yq8 (nT:Nat) (N:Nat):Prop:=∀ (fx:Bool) (d:Nat) (S:StP) (r:Nat) (w:World),(∀ ts,S=.ok ts→Zs ts)→(∀ ts,S=.ok ts→ts.length≤N)→d≤16→RP nT w r d S→Calls Tryz.prog 121 #[.pointer (some ⟨r,0,none⟩),.bool fx] w (Yqa nT fx d r S w)
theorem Zyv:(Tryz.prog.info? 94).map (fun i=>(i.zero,i.size,i.bytes))=some (some (.agg #[.int .i64 0,.int .i64 0,.string ⟨#[]⟩,.slice none 0 0,.slice none 0 0]),5,80):=by kernel_rfl
theorem Aw:(Tryz.prog.info? 151).map (fun i=>(i.zero,i.size,i.bytes))=some (some (.agg #[.string ⟨#[]⟩,.int .i64 0,.int .i64 0,.string ⟨#[]⟩,.slice none 0 0,.slice none 0 0]),6,96):=by kernel_rfl
theorem Jr {r ts:List Tok} (h:r <:+ ts) (g:Zs ts):Zs r:=fun t ht=>g t (h.subset ht)
theorem Ts:∀ (l:VL) (v:VT),Zjb (l.snoc v)=(Zjb l).snoc (M9 v)
 | .nil,v=>rfl
 | .cons u t,v=>by rw [VL.snoc,Zjb,Zjb,TrL.snoc,Ts t v]
theorem Fh (w:World) (cs:List Value) (t:TypeId) {n:Nat} (hn:n=w.heap.size):∀ (j:Nat) u,cs[j]? = some u→(w.alloc (.cells cs.toArray t)).cell? ((⟨n,0,none⟩:Addr).add j)=some u:=by
 subst hn;exact World.news_of_block (heap_alloc_new _ _)
theorem RP.grown {W W':World} {r d:Nat} {S:StP} {k:Option Nat} (h:RP nT W r d S) (hg:W.grownBy W' k) (hk:∀ b,k=some b→r < b):RP nT W' r d S:=by
 have hl:=h.lt;obtain ⟨A,c,p,dd,x,all,h0,h1,h2,h3,h5,h4⟩:=h;refine ⟨A,c,p,dd,x,all,(hg.block r hl (fun e=>by have:=hk r e.symm;omega)).trans h0,h1,h2,fun j t ht=>?_,h5,h4⟩;obtain ⟨b,o,e,hb,g0,g1⟩:=h3 j t ht;have hs:=hg.block b (by omega) (fun e=>by have:=hk b e.symm;omega);exact ⟨b,o,e,hb,(World.cell?_of_block (a:=⟨b,o+j*2,none⟩) hs).trans g0,(World.cell?_of_block (a:=⟨b,o+j*2+1,none⟩) hs).trans g1⟩
theorem Q1.grown {w:World} {r:Nat} {W W':World} {o:Obj} {b:Nat} {o1 o2:Obj} {S:StP} {d:Nat} {k:Option Nat} (h:Q1 nT w r W o b o1 S d) (hg:(W.alloc o2).grownBy W' k) (hk:∀ c,k=some c→b < c):Q1 nT w r W' o b o1 S d:=by
 have hb:=h.blt;have hr:=h.rb;have hl:=h.bl;have hsz:(W.alloc o2).heap.size=W.heap.size+1:=by simp
 have hold:∀ i,i < W.heap.size→(∀ c,k=some c→i < c)→W'.heap[i]? = W.heap[i]?:=fun i hi hc=>(hg.block i (by omega) (fun e=>by have:=hc i e.symm;omega)).trans (Below.heap_alloc _ _ _ hi);refine ⟨(hold _ (by omega) (fun c hc=>by have:=hk c hc;omega)).trans h.res,(hold _ hb (fun c hc=>hk c hc)).trans h.loc,hl,?_,h.hr,(h.rd.below (blw _ _)).grown hg (fun c hc=>by have:=hk c hc;omega)⟩;have hws:=h.mv.size;exact ⟨hg.os.trans h.mv.os,hg.tape.trans h.mv.tape,hg.output.trans h.mv.output,by have:=hg.size;omega,fun i hi hn=>(hold i (by omega) (fun c hc=>by have:=hk c hc;omega)).trans (h.mv.block i hi hn)⟩
theorem Iw {ty:TypeId} {n base:Nat} {w W:World} {V:Value} {T:TrL} (h:RTr ty n base W V T) (hl:T.len≤200002) (hb:w.heap.size < base) (xs:List Value):TP (setAll W w.heap.size 0 xs) (Y7 w (setAll W w.heap.size 0 xs)) (.row T) V:=
 TP.keep (fun k hk=>⟨⟨by omega,by rw [Vz];exact hk.2⟩,Xk (by omega) _ _ _⟩) _ _ (h.fin (by omega))
theorem Ybu {S:StP} (fx:Bool) (d:Nat) (h:isS 1 oB S=true):Zb (Im fx d) S=F1 (fun l=>.mk 6 0 ⟨#[]⟩ l .nil) (itS fx (d+1) .nil (Bb d oB S)):=by
 obtain ⟨t,ts,rfl,h2⟩:=Xr h;have h1:atB 1 oB (t :: ts)=true:=h
 show Im fx d (t :: ts)=_;rw [Wn];simp only [ifR,h1,if_true,List.tail_cons]
 by_cases h16:d=16
 · rw [Dx h h16,if_pos h16];rfl
 · rw [Ob (fun hh=>h16 hh.2),if_neg h16,h2]
   simp only [Ym,itS,Zb]
   cases Gi fx (d+1) .nil ts<;>rfl
theorem Yg3 {S:StP} (fx:Bool) (d:Nat) (h:isS 1 omB S=true):Zb (Im fx d) S=F1 (fun m=>.mk 7 0 ⟨#[]⟩ .nil m) (msS fx (d+1) .nil (Bb d omB S)):=by
 obtain ⟨t,ts,rfl,h2⟩:=Xr h;have h1:atB 1 omB (t :: ts)=true:=h
 have h0:atB 1 oB (t :: ts)=false:=by
   have e:(t.1 == 1 && (t.2.toList == omB.toList))=true:=h1;rw [Bool.and_eq_true] at e;have e2:t.2.toList=omB.toList:=by simpa using e.2
   show (t.1 == 1 && (t.2.toList == oB.toList))=false;rw [e2,e.1,Lib.toList_data,Lib.toList_data];decide
 show Im fx d (t :: ts)=_;rw [Wn];simp only [ifR,h0,h1,Bool.false_eq_true,if_false,if_true,List.tail_cons]
 by_cases h16:d=16
 · rw [Dx h h16,if_pos h16];rfl
 · rw [Ob (fun hh=>h16 hh.2),if_neg h16,h2]
   simp only [Ym,msS,Zb]
   cases Mz fx (d+1) .nil ts<;>rfl
theorem Yni (N : Nat) (IH:Ynv nT N) (fx:Bool) (d r:Nat) (tx:ByteArray) (us:List Tok) (w:World) (hG:Zs ((1,tx) :: us)) (hN:us.length≤N) (hd:d≤16) (hb0:isS 1 J5 (.ok ((1,tx) :: us))=false) (hb:isS 1 oB (.ok ((1,tx) :: us))=true) (h:RP nT w r d (.ok ((1,tx) :: us))):Calls Tryz.prog 98 #[.pointer (some ⟨r,0,none⟩),.bool fx] w (Yad nT fx d r (.ok ((1,tx) :: us)) w):=by
 obtain ⟨i0,hi,hz0,hz1,hz2⟩:=info_parts Zyv;have HR:=Hd (Ybu fx d hb);have HIH:=Hd IH;have HD:=Hd hd;have hln:us.length≤200000:=by obtain ⟨_,_,_,_,_,_,_,h1,_,_,_,h2⟩:=h;have:=congrArg List.length h2.2.2;simp at this;omega
 have HOK:Hid (∀ ts,Bb d oB (.ok ((1,tx) :: us))=.ok ts→ts=us∧d+1≤16):=Hd (fun ts e=>by
  by_cases h16:d=16
  · rw [Dx hb h16] at e;cases e
  · rw [Ob (fun hh=>h16 hh.2)] at e
    obtain ⟨t9,ts9,e9,e8⟩:=Xr hb;rw [e8] at e;have e9:=Except.ok.inj e9;have e:=Except.ok.inj e;injection e9 with _ e9
    exact ⟨by rw [← e,← e9],by omega⟩)
 obtain ⟨Kc,hKc⟩:∃ K,itS fx (d+1) .nil (Bb d oB (.ok ((1,tx) :: us)))=K:=⟨_,rfl⟩;rw [hKc] at HR;have HKC:=Hd hKc;have HG:=Hd (show Zs us from fun t ht=>hG t (List.mem_cons_of_mem _ ht));have K0:=Hd (Q0.start h #[.int .i64 0,.int .i64 0,.string ⟨#[]⟩,.slice none 0 0,.slice none 0 0] 94);have HP:Hid (Calls Tryz.prog 12 #[.pointer (some ⟨r,0,none⟩)] (w.alloc (.cells #[.int .i64 0,.int .i64 0,.string ⟨#[]⟩,.slice none 0 0,.slice none 0 0] 94)) fun e w'=>e=.returned (.agg #[.int .i64 1,.string tx])∧Below (w.alloc (.cells #[.int .i64 0,.int .i64 0,.string ⟨#[]⟩,.slice none 0 0,.slice none 0 0] 94)).heap.size (w.alloc (.cells #[.int .i64 0,.int .i64 0,.string ⟨#[]⟩,.slice none 0 0,.slice none 0 0] 94)) w'):=Hd (Lz r d _ _ K0.out.rd);have HB:=Hd (And.intro hb0 (hb));clear h hG hd hKc IH hb hb0
 go_enter Tryz.func98,Tryz.ntmps98
 go_wp2_with fail
 refine HP.out.mono ?_;rintro e w1 ⟨rfl,hb1⟩;have K1:=Hd (K0.out.next (K0.out.rd.below hb1) (Z0.of_below hb1));have K2:=Hd (K1.out.next (K1.out.rd.below (blw w1 (.cells #[.int .i64 1,.string tx] 45))) (Z0.of_below (blw w1 (.cells #[.int .i64 1,.string tx] 45))));have I2:=Hd (ris r d _ J5 _ K2.out.rd);rw [HB.out.1] at I2;clear hb1;go_wp2_with fail
 refine I2.out.mono ?_;rintro e w3 ⟨rfl,hb3⟩;have K3:=Hd (K2.out.next (K2.out.rd.below hb3) (Z0.of_below hb3));have I3:=Hd (ris r d _ oB _ K3.out.rd);rw [HB.out.2] at I3;clear hb3 I2;go_wp2_with fail
 refine I3.out.mono ?_;rintro e w4 ⟨rfl,hb4⟩;have K4:=Hd (K3.out.next (K3.out.rd.below hb4) (Z0.of_below hb4));clear hb4 I3;have K5:=Hd (Q1.make K4.out #[.int .i64 6,.int .i64 0,.string ⟨#[]⟩,.slice none 0 0,.slice none 0 0] 94);have HO:=Hd (Yq0 r d _ oB _ HD.out K5.out.rd);go_wp2_with fail
 refine HO.out.mono ?_;rintro e w6 ⟨rfl,h6,m6⟩;have K6:=Hd (K5.out.next h6 m6);clear h6 m6 HO;obtain ⟨b8,hb8⟩:∃ b,w4.heap.size=b:=⟨_,rfl⟩;rw [hb8] at K6;go_wp2_with fail
 clear hb8
 go_loopg [] (us.length+1) (fun g wx=>∃ (Sx:StP) (l:VL) (T:TrL) (V:Value),(∀ ts,Sx=.ok ts→ts.length < g∧T.len+ts.length≤200000)∧T.len≤200001∧Aside (Q1 nT w r wx (.cells #[.int .i64 0,.int .i64 0,.string ⟨#[]⟩,.slice none 0 0,.slice none 0 0] 94 (0,0)) b8 (.cells #[.int .i64 6,.int .i64 0,.string ⟨#[]⟩,V,.slice none 0 0] 94 (0,0)) Sx (d+1)∧RTr 94 5 (b8+1) wx V T∧itS fx (d+1) l Sx=Kc∧∀ ts,Sx=.ok ts→T=Zjb l∧Zs ts∧ts.length≤N∧d+1≤16))
 case atStart =>
  refine ⟨_,.nil,.nil,.slice none 0 0,fun ts e=>?_,Nat.zero_le _,Za ⟨K6.out,RTr.start _ _ _ _,HKC.out,fun ts e=>?_⟩⟩
  · obtain ⟨rfl,_⟩:=HOK.out ts e
    exact ⟨by omega,by show 0+_≤_;omega⟩
  · obtain ⟨rfl,h16⟩:=HOK.out ts e
    exact ⟨rfl,HG.out,hN,h16⟩
 case round =>
  obtain ⟨Sx,l,T,V,hms,hTl,HA⟩:=hrel;have KX:=Hd HA.out.1;have HRR:=Hd HA.out.2.1;have HKX:=Hd HA.out.2.2.1;have HFX:=Hd HA.out.2.2.2;clear HA K6;obtain ⟨Ao,co,rfl⟩:=HRR.out.shape;obtain ⟨A,n,c,p,dd,x0,h0,h1,h2⟩:=KX.out.rd.cells;obtain ⟨c0,c1,c2,c3,cz⟩:=Zh h0;clear cz h0;rcases Sx with y|ts
  · obtain ⟨rfl,hy⟩:=h2
    have t1:(x0 == 0)=false:=by simpa using hy
    have hs7:=Hd (Yif r d (.error x0) cB _ HD.out KX.out.rd);have HKX:=Hd (show (.error x0:Except Int (VL × List Tok))=Kc from HKX.out);clear hy h1 hms;go_wp2_with fail
    refine hs7.out.mono ?_;rintro e w7 ⟨rfl,hh7,mm7⟩;have M7:=Hd mm7;clear c0 c1 c2 c3;have K7:=Hd (KX.out.next hh7 mm7);obtain ⟨k0,k1,k2,k3,k4,kz⟩:=gvc K7.out.loc;obtain ⟨q0,q1,q2,q3,q4,qz⟩:=gvc K7.out.res;have qf0:=qz 0;have qf1:=qz 1;have qf2:=qz 2;have qf3:=qz 3;have qf4:=qz 4;clear hh7 mm7 kz qz;go_wp2_with fail
    have F:=K7.out.fin (ys:=vaZ) [.int .i64 6,.int .i64 0,.string ⟨#[]⟩,.slice Ao T.len co,.slice none 0 0] rfl;have TT:=Iw (w:=w) (RTr.moved HRR.out M7.out (by have:=KX.out.rb;omega)) (by omega) (by have:=KX.out.bl;omega) [.int .i64 6,.int .i64 0,.string ⟨#[]⟩,.slice Ao T.len co,.slice none 0 0];refine Y6 (cs:=[.int .i64 6,.int .i64 0,.string ⟨#[]⟩,.slice Ao T.len co,.slice none 0 0]) rfl rfl rfl F.1 Tryz.underlying94 ⟨_,rfl⟩ (by kernel_rfl) ?_;have hk:=HKX.out;refine ⟨_,_,_,_,_,_,_,_,_,rfl,⟨.cons (.one (.int .i64 6)) (.cons (.one (.int .i64 0)) (.cons (.one (.string ⟨#[]⟩)) (.cons (.row T) (.cons (.row .nil) .nil)))),TS.int (TS.int (TS.str (Nat.zero_le _) (TS.row TT (TS.row (TP.none _ _) (TS.nil _ _))))),fun a us e=>?_⟩,?_,F.2.2⟩
    · rw [HR.out,← hk] at e
      cases e
    · rw [HR.out,← hk]
      exact F.2.1
  · obtain ⟨rfl,rfl⟩:=h2
    have HF:=Hd (HFX.out ts rfl);obtain ⟨hg1,hg2⟩:=hms ts rfl;have hi7:=Hd (ris r (d+1) (.ok ts) cB _ KX.out.rd)
    cases hc:isS 1 cB (.ok ts) with
    | true =>
      rw [hc] at hi7;have HC:=Hd hc;clear hc h1 hms;go_wp2_with fail
      refine hi7.out.mono ?_;rintro e w6' ⟨rfl,hb6⟩;have KX':=Hd (KX.out.next (KX.out.rd.below hb6) (Z0.of_below hb6));have HRR':=Hd (HRR.out.moved (Z0.of_below (r:=r) hb6) (by have:=KX.out.rb;omega));have hs7:=Hd (Yif r d (.ok ts) cB _ HD.out KX'.out.rd);clear hb6 c0 c1 c2 c3 KX HRR;have KX:=KX';have HRR:=HRR';go_wp2_with fail
      refine hs7.out.mono ?_;rintro e w7 ⟨rfl,hh7,mm7⟩;have M7:=Hd mm7;have K7:=Hd (KX.out.next hh7 mm7);obtain ⟨k0,k1,k2,k3,k4,kz⟩:=gvc K7.out.loc;obtain ⟨q0,q1,q2,q3,q4,qz⟩:=gvc K7.out.res;have qf0:=qz 0;have qf1:=qz 1;have qf2:=qz 2;have qf3:=qz 3;have qf4:=qz 4;clear hh7 mm7 kz qz;go_wp2_with fail
      have F:=K7.out.fin (ys:=vaZ) [.int .i64 6,.int .i64 0,.string ⟨#[]⟩,.slice Ao T.len co,.slice none 0 0] rfl;have TT:=Iw (w:=w) (RTr.moved HRR.out M7.out (by have:=KX.out.rb;omega)) (by omega) (by have:=KX.out.bl;omega) [.int .i64 6,.int .i64 0,.string ⟨#[]⟩,.slice Ao T.len co,.slice none 0 0];refine Y6 (cs:=[.int .i64 6,.int .i64 0,.string ⟨#[]⟩,.slice Ao T.len co,.slice none 0 0]) rfl rfl rfl F.1 Tryz.underlying94 ⟨_,rfl⟩ (by kernel_rfl) ?_;have hk:=HKX.out;rw [Ypm HC.out] at hk;refine ⟨_,_,_,_,_,_,_,_,_,rfl,⟨.cons (.one (.int .i64 6)) (.cons (.one (.int .i64 0)) (.cons (.one (.string ⟨#[]⟩)) (.cons (.row T) (.cons (.row .nil) .nil)))),TS.int (TS.int (TS.str (Nat.zero_le _) (TS.row TT (TS.row (TP.none _ _) (TS.nil _ _))))),fun a us e=>?_⟩,?_,F.2.2⟩
      · rw [HR.out,← hk] at e
        obtain ⟨a2,e2,rfl⟩:=Vg e;obtain ⟨a3,e3,rfl⟩:=Vg e2;rw [HF.out.1]
        rfl
      · rw [HR.out,← hk,Y4,Y4,show Xb (Zb (fun ts=>Except.ok ((),ts)) (tkS cB (.ok ts)))=tkS cB (.ok ts) from Yf _]
        exact F.2.1
    | false =>
      rw [hc] at hi7;have HNX:=Hd (by have hk:=HKX.out;rw [Ym4 hc] at hk;exact hk)
      cases gk with
      | zero=>omega
      | succ g =>
        clear hc h1 hms;go_wp2_with fail
        refine hi7.out.mono ?_;rintro e w6' ⟨rfl,hb6⟩;have KX':=Hd (KX.out.next (KX.out.rd.below hb6) (Z0.of_below hb6));have HRR':=Hd (HRR.out.moved (Z0.of_below (r:=r) hb6) (by have:=KX.out.rb;omega));have CV:=fun wx (hb:Below w6'.heap.size w6' wx)=>Hd (HIH.out fx (d+1) (.ok ts) r wx (fun us e=>by rw [← Except.ok.inj e];exact HF.out.2.1) (fun us e=>by rw [← Except.ok.inj e];exact HF.out.2.2.1) HF.out.2.2.2 (KX'.out.rd.below hb));clear hb6 c0 c1 c2 c3 KX HRR;have KX:=KX';obtain ⟨m0,m1,m2,m3,m4,mz⟩:=gvc KX.out.loc;have z3:=mz 3;obtain ⟨xs,P,hown,hvals,hP⟩:=HRR'.out;have HVB:Hid (∀ c,(Value.slice Ao T.len co).ownBlock=some c→b8 < c):=Hd (fun c hc=>by have:=(hown.lt c hc).1;omega);have HRT:=Hd (And.intro hown (And.intro hvals hP));clear mz hown hvals hP;go_wp2_with fail
        refine wp_region_held_drew (S:=fun _=>True) (by kernel_rfl) trivial (fun _=>?_);refine tkE (i:=0) (v:=?_) rfl (Or.inl ⟨by rfl,?_⟩) ?_
        rotate_left
        · (intro w _;go_simp;try with_reducible rfl)
        simp only [Act.put,List.setIfInBounds_toArray];refine tkE (i:=2) (v:=?_) rfl (Or.inl ⟨by rfl,?_⟩) ?_
        rotate_left
        · (intro w _;go_simp;try with_reducible rfl)
        simp only [Act.put];refine tkE (i:=3) (v:=?_) rfl (Or.inl ⟨by rfl,?_⟩) ?_
        rotate_left
        · (intro w _;go_simp;try with_reducible rfl)
        simp only [Act.put];refine rd2E 1 4 rfl rfl (fun K hK=>?_) (fun K hK=>?_)
        focus
          go_simp
          refine hK.out _ _ trivial (fun _=>?_);clear hK K
          try simp only [Act.put,stT,stZ,stS]
          refine rd1E 4 rfl (fun K hK=>?_)
          go_simp
          go_at_call 98
          refine (CV _ (Below.drew (Below.refl _ _))).out.mono ?_;rintro e w3 ⟨vk,vn,vs,A3,n3,k3,A4,n4,k4,rfl,⟨xt,hts,hxe⟩,r3,m3⟩;have HM3:=Hd ((Z0.of_below (r:=r) (Below.drew (Below.refl _ _))).trans m3);have HTS:=Hd hts;have HXE:=Hd hxe;have K3:=Hd (KX.out.next r3 HM3.out);clear hts hxe r3 m3;obtain ⟨j0,j1,j2,j3,j4,jz⟩:=gvc K3.out.loc;have y3:=jz 3;have jA:=fun o=>(World.cell?_of_block (a:=⟨b8,3,none⟩) (Below.heap_alloc w3 o _ K3.out.blt)).trans j3;clear jz m0 m1 m2 m3 m4 z3;go_wp2_with fail
          refine hK.out _ _ trivial (fun _=>?_);clear hK K
          try simp only [Act.put,stT,stZ,stS]
          refine rdE (rs:=[5]) ?_
        rotate_left
        focus
          go_simp
          go_at_call 98
          refine (CV _ (Below.drew (Below.refl _ _))).out.mono ?_;rintro e w3 ⟨vk,vn,vs,A3,n3,k3,A4,n4,k4,rfl,⟨xt,hts,hxe⟩,r3,m3⟩;have HM3:=Hd ((Z0.of_below (r:=r) (Below.drew (Below.refl _ _))).trans m3);have HTS:=Hd hts;have HXE:=Hd hxe;have K3:=Hd (KX.out.next r3 HM3.out);clear hts hxe r3 m3;obtain ⟨j0,j1,j2,j3,j4,jz⟩:=gvc K3.out.loc;have y3:=jz 3;have jA:=fun o=>(World.cell?_of_block (a:=⟨b8,3,none⟩) (Below.heap_alloc w3 o _ K3.out.blt)).trans j3;clear jz m0 m1 m2 m3 m4 z3;go_wp2_with fail
          refine hK.out _ _ trivial (fun _=>?_);clear hK K
          try simp only [Act.put,stT,stZ,stS]
          refine rd2E 1 5 rfl rfl (fun K hK=>?_) (fun K hK=>?_)
          focus
           go_simp
           refine hK.out _ _ trivial (fun _=>?_);clear hK K
           try simp only [Act.put,stT,stZ,stS]
           refine rdE (rs:=[5]) ?_
          rotate_left
          focus
           go_simp
           refine hK.out _ _ trivial (fun _=>?_);clear hK K
           try simp only [Act.put,stT,stZ,stS]
           refine rdE (rs:=[1]) ?_
        all_goals
          refine AllReadyH.cons rfl (fun K hK=>?_) AllReadyH.nil
          go_simp
          refine hK.out _ _ trivial (fun _=>?_);clear hK K
          try simp only [Act.put,stT,stZ,stS]
          refine rd1E 6 rfl (fun K hK=>?_);refine step_append_lies _ (by rfl) _ _ 91 (by rfl) (b8+1) 94 i0 (.agg #[.int .i64 0,.int .i64 0,.string ⟨#[]⟩,.slice none 0 0,.slice none 0 0]) 5 80 Tryz.underlying91 hi hz0 hz1 hz2 (by rfl) (by decide) _ T.len xs (by rfl) (Yw (Yk HRT.out.1 HM3.out (by have:=KX.out.rb;omega)) ((Below.refl _ _).alloc (Nat.le_refl _) _)) _ 1 1 [.int .i64 vk,.int .i64 vn,.string vs,.slice A3 n3 k3,.slice A4 n4 k4] (by rfl) (by rfl) (Fh _ _ _ (by first|rfl|(simp;done))) (by intro y hy;simp at hy;rcases hy with rfl|rfl|rfl|rfl|rfl<;>rfl) (by decide) (by unfold maxLen;omega) (by omega) (by have h1:=K3.out.blt;simp;omega) _ rfl ?_;intro gg cap2 w4 hown4 hgrow hat hlt4;have HG4:=Hd hgrow;have HO4:=Hd hown4;have HT4:=Hd hat;have K4:=Hd (K3.out.grown hgrow HVB.out);obtain ⟨x0,x1,x2,x3,x4,xz⟩:=gvc K4.out.loc;have u3:=xz 3;clear hgrow hown4 hat xz j0 j1 j2 j3 j4 y3 jA;refine hK.out _ _ trivial (fun _=>?_);clear hK K;simp only [Act.put,List.setIfInBounds_toArray];refine rd1E 7 rfl (fun K hK=>?_)
          go_simp
          refine hK.out _ _ trivial (fun _=>?_);clear hK K
          try simp only [Act.put,stT,stZ,stS]
          refine rd1E 8 rfl (fun K hK=>?_)
          go_simp
          refine hK.out _ _ trivial (fun _=>?_);clear hK K
          try simp only [Act.put,stT,stZ,stS]
          refine wpAnyH_done (by kernel_rfl) ?_ _;go_wp2_with fail
          have T4:=RTr.app (by have:=KX.out.rb;omega) (Nat.succ_le_of_lt KX.out.blt) HRT.out.1 HRT.out.2.1 HRT.out.2.2 HM3.out HTS.out HO4.out HG4.out HT4.out;have hrun:=HNX.out
          go_roundg g
          case measure=>omega
          case rel =>
           rcases hR1:Zb (Im fx (d+1)) (.ok ts) with y|a
           · rw [hR1] at hrun
             have K5:=K4.out.put 3 (.slice (some ⟨gg,0,none⟩) (T.len+1) cap2);rw [hR1] at K5;exact ⟨.error y,l,T.snoc xt,_,(fun us e=>by cases e),by rw [TrL.snoc_len];omega,Za ⟨K5,T4.moved Z0.set (Nat.lt_succ_self _),hrun,fun us e=>by cases e⟩⟩
           · rw [hR1] at hrun
             have K5:=K4.out.put 3 (.slice (some ⟨gg,0,none⟩) (T.len+1) cap2);rw [hR1] at K5;have hsf:=Qw hR1;refine ⟨.ok a.2,l.snoc a.1,T.snoc xt,_,(fun us e=>?_),by rw [TrL.snoc_len];omega,Za ⟨K5,T4.moved Z0.set (Nat.lt_succ_self _),hrun,fun us e=>?_⟩⟩
             · have e:=Except.ok.inj e
               subst e;have:=hsf.2;rw [TrL.snoc_len];exact ⟨by omega,by omega⟩
             · have e:=Except.ok.inj e
               subst e;have hf:=HF.out.1;refine ⟨?_,Jr hsf.1 HF.out.2.1,Nat.le_trans (Nat.le_of_lt hsf.2) HF.out.2.2.1,HF.out.2.2.2⟩;rw [hf,HXE.out a.1 a.2 (by rw [hR1])];exact (Ts l a.1).symm
end Go.Proofs.YtkmloefbkgcbkaaGreatDoor
