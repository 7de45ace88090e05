/- The walk of letters.Code: what it answers is the plain function 'dec' of the bytes from the place on; below the call's own blocks nothing has turned. -/
import Derived.Test.YtkmloefbkgcbkaaGreatDoorSr5
set_option maxRecDepth 100000
set_option maxHeartbeats 2000000
namespace Go.Proofs.YtkmloefbkgcbkaaGreatDoor
open Go.RowKit
def tab:List Int:=[0,128,0,192,224,128,224,240,2048,240,248,65536]
def Wp (w:World):Prop:=∀ (j:Nat) z,tab[j]? = some z→w.cell? ⟨0,j,none⟩=some (.int .i64 z)
def cells:Array Value:=#[.int .i64 0,.int .i64 128,.int .i64 0,.int .i64 192,.int .i64 224,.int .i64 128,.int .i64 224,.int .i64 240,.int .i64 2048,.int .i64 240,.int .i64 248,.int .i64 65536]
theorem Yqv (w:World):(Instr.index 159 (.agg cells) (.int .i64 0)).run Tryz.prog w=.ok (.agg #[.int .i64 0,.int .i64 128,.int .i64 0]) w:=by kernel_rfl
theorem Yqw (w:World):(Instr.index 159 (.agg cells) (.int .i64 1)).run Tryz.prog w=.ok (.agg #[.int .i64 192,.int .i64 224,.int .i64 128]) w:=by kernel_rfl
theorem Yqt (w:World):(Instr.index 159 (.agg cells) (.int .i64 2)).run Tryz.prog w=.ok (.agg #[.int .i64 224,.int .i64 240,.int .i64 2048]) w:=by kernel_rfl
theorem Yqu (w:World):(Instr.index 159 (.agg cells) (.int .i64 3)).run Tryz.prog w=.ok (.agg #[.int .i64 240,.int .i64 248,.int .i64 65536]) w:=by kernel_rfl
theorem idx {n:Nat} (hn:n < 4) (w:World):(Instr.index 159 (.agg cells) (.int .i64 n)).run Tryz.prog w=.ok (.agg #[.int .i64 (Vw n),.int .i64 (Ynu n),.int .i64 (Lj n)]) w:=by
 match n,hn with
 | 0,_=>exact Yqv w
 | 1,_=>exact Yqw w
 | 2,_=>exact Yqt w
 | 3,_=>exact Yqu w
theorem Ykl {a b:Int} (h:a=b):(a != b)=false:=by simp [h]
theorem Yc6 {a b:Int} (h : ¬ a=b):(a != b)=true:=by simp [h]
theorem Zxt {a b c d:Int} {w w':World} {B:Nat} {p:Int × Int} (h:(c,d)=p) (ha:a=c) (hb:b=d) (hw:Below B w w') :
 Ending.returned (.tuple #[.int .i64 a,.int .i64 b])=.returned (.tuple #[.int .i64 p.1,.int .i64 p.2])∧Below B w w':=by subst h ha hb;exact ⟨rfl,hw⟩
theorem Ymw (s : ByteArray) (i:Nat) (w:World) (hs:s.size≤1100000) (hi:i < s.size) (ht:Wp w) :
  Calls Tryz.prog 100 #[.string s,.int .i64 i] w fun e w'=>e=.returned (.tuple #[.int .i64 (dec (s.data.toList.drop i)).1,.int .i64 (dec (s.data.toList.drop i)).2])∧Below w.heap.size w w':=by
 have t0:=ht 0 _ rfl;have t1:=ht 1 _ rfl;have t2:=ht 2 _ rfl;have t3:=ht 3 _ rfl;have t4:=ht 4 _ rfl;have t5:=ht 5 _ rfl;have t6:=ht 6 _ rfl;have t7:=ht 7 _ rfl;have t8:=ht 8 _ rfl;have t9:=ht 9 _ rfl;have t10:=ht 10 _ rfl;have t11:=ht 11 _ rfl;clear ht;have hlen:Hid ((s.data.toList.drop i).length=s.size - i):=Hd (by rw [List.length_drop,Lib.size_eq]);have hb0:=Lp (s.data.toList.drop i) 0;have e0:(s[i].toNat:Int)=byt (s.data.toList.drop i) 0:=J2 s i 0 hi;have eb:=J2 s i;generalize hl:s.data.toList.drop i=l at *;have HL:=Hd hl;clear hl;have EB:=Hd eb;clear eb;have E0:=Hd e0;clear e0;have hb0':=hb0.1;have hb0'':=hb0.2;clear hb0;have g1:(s[i].toNat:Int) < 256:=by rw [E0.out];exact hb0''
 have d1:decide (s.size≤i)=false:=by simpa using hi
 have d2:decide ((i:Int) < 0)=false:=by simp
 go_enter Tryz.func100,Tryz.ntmps100
 go_wp2
 go_step3
 go_wp2
 go_step3
 go_wp2
 clear t0 t1 t2 t3 t4 t5 t6 t7 t8 t9 t10 t11
 go_loopg [21] 4 (fun g k wx=>∃ n:Nat,n+g=4∧k=.int .i64 n∧Below w.heap.size w wx∧Aside (D7 l n))
 case atStart=>exact ⟨0,by omega,rfl,Below.refl _ _,Aside.intro (fun j hj=>by omega)⟩
 case round =>
  obtain ⟨n,hn,rfl,hb,HN⟩:=hrel;have e0:=E0.out
  cases gk with
  | zero =>
    obtain rfl:n=4:=by omega
    have hd:=Hd (Di HN.out);clear HN e0;go_wp2
    try rw [Exit.noGoto_ret]
    go_ret2
    exact Zxt hd.out.symm rfl rfl hb
  | succ g =>
    have hn4:n < 4:=by omega
    have hn4':(n:Int) < 4:=by omega
    have ix:=idx hn4;unfold cells at ix;have hm:=Yiu hn4 hb0' hb0'';have hb2:=fun (o:Obj)=>hb.alloc hb.size o
    by_cases hL:Xv n (byt l 0)
    · have m1 := Ykl (hm.1.2 hL)
      have m2:=hm.2 hL;clear hm
      by_cases hk:n < s.size - i
      · have hk' : (n:Int) < (s.size:Int) - (i:Int):=by omega
        have d3:decide ((s.size:Int) - (i:Int)≤(n:Int))=false:=by simp;omega
        have hb3:=Hd hb2;clear hb2;go_wp2
        clear ix m1 m2 e0
        go_loopg [9,10] n (fun g2 c k wy=>∃ j:Nat,1≤j∧j+g2=n+1∧k=.int .i64 j∧c=.int .i64 (acc l (byt l 0 - Vw n) j)∧Aside (J3 l j=true) ∧
         wr.alloc (.cells #[.int .i64 (Vw n),.int .i64 (Ynu n),.int .i64 (Lj n)] 158)=wy)
        case atStart=>exact ⟨1,by omega,by omega,rfl,rfl,Aside.intro rfl,rfl⟩
        case round =>
         obtain ⟨j,hj1,hjg,rfl,rfl,HC,rfl⟩:=hrel;have hls:=Hd (Zkj hL);have hsm:=Ed (l:=l) hls.out.1 hls.out.2 (by omega) HC.out;have hsm1:=hsm.1;have hsm2:=hsm.2;clear hsm
         cases gk with
         | zero =>
           obtain rfl:j=n+1:=by omega
           have hy:=fun h=>Hd (Et hn4 HN.out (Zv2 (by rw [hlen.out];exact hk) hL HC.out h));have hnf:=fun h=>Hd (Jd HN.out (Fa (l:=l) (k:=n) h));unfold Qb at hy hnf;generalize acc l (byt l 0 - Vw n) (n+1)=C at *;clear HC HN
           by_cases f1:Lj n≤C
           · by_cases f2:C≤1114111
             · cases f3:X6 C
               · have hy2:=hy ⟨f1,f2,f3⟩
                 clear hy hnf
                 go_wp2_with (go_at_call 127;refine (Ei _ _).mono ?_;rintro e w' ⟨rfl,rfl⟩)
                 try rw [Exit.noGoto_ret]
                 go_ret2
                 exact Zxt hy2.out.symm rfl rfl (hb3.out _)
               · have hn2:=hnf (by rintro ⟨_,_,h⟩;rw [f3] at h;cases h)
                 clear hy hnf
                 go_wp2_with (go_at_call 127;refine (Ei _ _).mono ?_;rintro e w' ⟨rfl,rfl⟩)
                 go_roundg g
                 case measure=>omega
                 case rel=>exact ⟨n+1,by omega,by go_num,hb3.out _,Aside.intro hn2.out⟩
             · have hn2:=hnf (by rintro ⟨_,h,_⟩;exact f2 h)
               clear hy hnf
               go_wp2_with (go_at_call 127;refine (Ei _ _).mono ?_;rintro e w' ⟨rfl,rfl⟩)
               go_roundg g
               case measure=>omega
               case rel=>exact ⟨n+1,by omega,by go_num,hb3.out _,Aside.intro hn2.out⟩
           · have hn2:=hnf (by rintro ⟨h,_,_⟩;exact f1 h)
             clear hy hnf
             go_wp2_with (go_at_call 127;refine (Ei _ _).mono ?_;rintro e w' ⟨rfl,rfl⟩)
             go_roundg g
             case measure=>omega
             case rel=>exact ⟨n+1,by omega,by go_num,hb3.out _,Aside.intro hn2.out⟩
         | succ g2 =>
           have hjn:(j:Int)≤(n:Int):=by omega
           have hij:i+j < s.size:=by omega
           have ej:=EB.out j hij;have hbj:=Lp l j;have hbj1:=hbj.1;have hbj2:=hbj.2;clear hbj;have htl:=Dk hbj1 hbj2
           by_cases hc:Ju (byt l j)=true
           · have m1:=Ykl (htl.1.2 hc)
             have m2:=htl.2 hc;have hcc:128≤byt l j∧byt l j≤191:=by simpa [Ju] using hc
             have m3:=Zv1 (c:=acc l (byt l 0 - Vw n) j) (d:=byt l j - 128) (by omega) (by omega) (by omega) (by omega);have hx:=Hd hcc;have hs1:=Hd (Dt (l:=l) (c:=byt l 0 - Vw n) hj1);have hs2:=Hd (L1 hj1 HC.out hc);clear htl hc hcc HC;go_wp2
             go_roundg g2
             case measure=>omega
             case rel=>exact ⟨j+1,by omega,by omega,by go_num,by rw [hs1.out],Aside.intro hs2.out,rfl⟩
           · have m1:=Yc6 (fun h=>hc (htl.1.1 h))
             have hn2:=Hd (Jd HN.out (U6 (k:=n) hj1 (by omega) hc));clear htl hc HC HN;go_wp2
             go_roundg g
             case measure=>omega
             case rel=>exact ⟨n+1,by omega,by go_num,hb3.out _,Aside.intro hn2.out⟩
      · have hk' : ¬ ((n:Int) < (s.size:Int) - (i:Int)):=by omega
        have hn2:=Hd (Jd HN.out (Ex (l:=l) (k:=n) (by rw [hlen.out];exact hk)));have hb3:=Hd hb2;clear HN hb2;go_wp2
        go_roundg g
        case measure=>omega
        case rel=>exact ⟨n+1,by omega,by go_num,hb3.out _,Aside.intro hn2.out⟩
    · have m1:=Yc6 (fun h=>hL (hm.1.1 h))
      have hn2:=Hd (Jd HN.out (Eh hL));have hb3:=Hd hb2;clear hm HN hb2;go_wp2
      go_roundg g
      case measure=>omega
      case rel=>exact ⟨n+1,by omega,by go_num,hb3.out _,Aside.intro hn2.out⟩
theorem Wp.lt {w:World} (h:Wp w):0 < w.heap.size:=by
 rcases Nat.lt_or_ge 0 w.heap.size with h'|h'
 · exact h'
 · have:=h 0 0 rfl
   simp [World.cell?,Array.getElem?_eq_none h'] at this
theorem Wp.below {w w':World} {B:Nat} (h:Wp w) (hb:Below B w w') (hB:0 < B):Wp w':=fun j z hz=>(hb.cell (p:=⟨0,j,none⟩) hB).trans (h j z hz)
def Oh (s:ByteArray) (i:Int):Int × Int:=if 0≤i∧i < s.size then dec (s.data.toList.drop i.toNat) else (0,0)
theorem Zqc (fn:Nat) (p:Int→Bool) (he:∀ args w,(callFunc fn args).run Tryz.prog w=.ok (.enter fn args) w) (hp:∀ (c:Int) (w:World),Calls Tryz.prog fn #[.int .i64 c] w fun e w'=>e=.returned (.bool (p c))∧w=w') (s:ByteArray) (w:World) (hs:s.size≤1100000) (ht:Wp w) :
  Calls Tryz.prog 72 #[.string s,.func (.func fn) #[] #[]] w fun e w'=>e=.returned (.bool (Ix p s.data.toList))∧Below w.heap.size w w':=by
 have HP:=Hd hp;have HT:=Hd ht;clear hp ht;have hlen:s.data.toList.length=s.size:=Array.length_toList;have HL:=Hd hlen;clear hlen
 go_enter Tryz.func72,Tryz.ntmps72
 go_wp2
 go_loopg [5] s.size (fun g i wx=>∃ k:Nat,k+g=s.size∧i=.int .i64 k∧Below w.heap.size w wx∧Aside (Ix p (s.data.toList.drop k)=Ix p s.data.toList))
 case atStart=>exact ⟨0,by omega,rfl,Below.refl _ _,Aside.intro rfl⟩
 case round =>
  obtain ⟨k,hk,rfl,hb,H⟩:=hrel
  cases gk with
  | zero =>
    obtain rfl:k=s.size:=by omega
    have h2:Hid (Ix p s.data.toList=true):=Hd (by rw [← H.out,List.drop_eq_nil_of_le (by rw [HL.out];omega)];rfl);clear H;go_wp2
    go_ret
    exact ⟨Z6 h2.out.symm,hb⟩
  | succ g =>
    have hlt:k < s.size:=by omega
    have hlt':(k:Int) < (s.size:Int):=by omega
    have hne:Hid (s.data.toList.drop k ≠ []):=Hd (fun e=>by have:=congrArg List.length e;rw [List.length_drop,HL.out] at this;simp at this;omega);have hdl:Hid ((s.data.toList.drop k).length=s.size - k):=Hd (by rw [List.length_drop,HL.out]);have hbd:=Mv (s.data.toList.drop k);have hcode:=Ymw s k wr hs hlt (HT.out.below hb HT.out.lt);have hst:=Hd (Wl (p:=p) (l:=s.data.toList.drop k) hne.out);have hbad:=Hd (Ycb (p:=p) (l:=s.data.toList.drop k) hne.out);generalize dec (s.data.toList.drop k)=d at *;obtain ⟨c,n⟩:=d;simp only at hbd hcode hst hbad;obtain ⟨b1,b2,b3,b4,b5,b6⟩:=hbd;rw [hdl.out] at b3;have HC:=Hd hcode;clear hcode b6
    by_cases hn:n=0
    · have hfin:Hid (Ix p s.data.toList=false):=Hd (by rw [← H.out];exact hbad.out hn)
      have z0:(n == 0)=true:=by simp [hn]
      clear H hst hbad hn;go_wp2_with fail
      refine HC.out.mono ?_;rintro e w1 ⟨rfl,hb1⟩;go_wp2_with fail
      go_ret
      exact ⟨Z6 hfin.out.symm,hb.trans (hb1.mono hb.size)⟩
    · have z0:(n == 0)=false:=by simp [hn]
      cases hpc:p c
      · have hfin:Hid (Ix p s.data.toList=false):=Hd (by rw [← H.out,hst.out hn,hpc];rfl)
        have hpc':=Hd hpc;clear H hst hbad hn hpc;go_wp2_with fail
        refine HC.out.mono ?_;rintro e w1 ⟨rfl,hb1⟩;go_wp2_with fail
        refine (HP.out _ _).mono ?_;rintro e w2 ⟨rfl,rfl⟩;rw [hpc'.out];go_wp2_with fail
        go_ret
        exact ⟨Z6 hfin.out.symm,hb.trans (hb1.mono hb.size)⟩
      · have hfin:Hid (Ix p ((s.data.toList.drop k).drop n.toNat)=Ix p s.data.toList):=Hd (by rw [← H.out,hst.out hn,hpc];rfl)
        have hpc':=Hd hpc;have hn1:1≤n:=by omega
        clear H hst hbad hn hpc;go_wp2_with fail
        refine HC.out.mono ?_;rintro e w1 ⟨rfl,hb1⟩;go_wp2_with fail
        refine (HP.out _ _).mono ?_;rintro e w2 ⟨rfl,rfl⟩;rw [hpc'.out];go_wp2_with fail
        obtain ⟨m,rfl⟩:=Int.eq_ofNat_of_zero_le b1
        go_roundg (s.size - (k+m))
        case measure=>omega
        case rel=>exact ⟨k+m,by omega,by go_num,hb.trans (hb1.mono hb.size),Aside.intro (by rw [← hfin.out,List.drop_drop];rfl)⟩
theorem Yoq (c:Int) (w:World):Calls Tryz.prog 163 #[.int .i64 c] w fun e w'=>e=.returned (.bool ((fun _=>true) c))∧w=w':=by
 go_enter Tryz.func163,Tryz.ntmps163
 go_wp2
 go_ret
 exact ⟨rfl,rfl⟩
theorem Ygo (c:Int) (w:World):Calls Tryz.prog 73 #[.int .i64 c] w fun e w'=>e=.returned (.bool (Yd5 c))∧w=w':=by
 go_enter Tryz.func73,Tryz.ntmps73
 go_wp2
 all_goals go_ret
 all_goals (refine Uz ?_;simp [Yd5];try omega)
theorem Zxf (s:ByteArray) (w:World) (hs:s.size≤1100000) (ht:Wp w):Calls Tryz.prog 147 #[.string s] w fun e w'=>e=.returned (.bool (Zm s.data.toList))∧Below w.heap.size w w':=by
 have H:=Hd (Zqc 163 (fun _=>true) (Go.Proofs.enters_of Tryz.func163 (by kernel_rfl) rfl) Yoq s w hs ht)
 go_enter Tryz.func147,Tryz.ntmps147
 go_wp2_with fail
 refine H.out.mono ?_;rintro e w' ⟨rfl,hb⟩;go_wp2_with fail
 go_ret
 exact ⟨rfl,hb⟩
theorem Zyl (s:ByteArray) (w:World) (hs:s.size≤1100000) (ht:Wp w):Calls Tryz.prog 38 #[.string s] w fun e w'=>e=.returned (.bool (X7 s.data.toList))∧Below w.heap.size w w':=by
 have H:=Hd (Zqc 73 Yd5 (Go.Proofs.enters_of Tryz.func73 (by kernel_rfl) rfl) Ygo s w hs ht)
 go_enter Tryz.func38,Tryz.ntmps38
 go_wp2_with fail
 refine H.out.mono ?_;rintro e w' ⟨rfl,hb⟩;go_wp2_with fail
 go_ret
 exact ⟨rfl,hb⟩
def Ln (w:World) (B:Nat) (A:Option Addr) (n:Nat) (zs:List Int):Prop:=
 zs.length=n∧∀ (j:Nat) z,zs[j]? = some z→∃ b o,A=some ⟨b,o,none⟩∧b < B∧w.cell? ⟨b,o+j,none⟩=some (.int .i64 z)
theorem Ln.below {w w':World} {B:Nat} {A:Option Addr} {n:Nat} {zs:List Int} (h:Ln w B A n zs) (hb:Below B w w'):Ln w' B A n zs:=
 ⟨h.1,fun j z hz=>by
  obtain ⟨b,o,e,hlt,hc⟩:=h.2 j z hz;exact ⟨b,o,e,hlt,(hb.cell (p:=⟨b,o+j,none⟩) hlt).trans hc⟩⟩
theorem Ln.more {w:World} {B B':Nat} {A:Option Addr} {n:Nat} {zs:List Int} (h:Ln w B A n zs) (hB:B≤B'):Ln w B' A n zs:=
 ⟨h.1,fun j z hz=>by
  obtain ⟨b,o,e,hlt,hc⟩:=h.2 j z hz;exact ⟨b,o,e,by omega,hc⟩⟩
def Ii (zs:List Int):ByteArray:=match Vo zs with|some l=>⟨l.toArray⟩|none=>⟨#[]⟩
def Yl (zs:List Int):Bool:=(Vo zs).isSome
theorem Js {zs:List Int} {s:ByteArray} {b:Bool} {B:Nat} {w w':World} (h1:Ii zs=s) (h2:Yl zs=b) (hw:Below B w w') :
 Ending.returned (.tuple #[.string s,.bool b])=.returned (.tuple #[.string (Ii zs),.bool (Yl zs)])∧Below B w w':=by subst h1 h2;exact ⟨rfl,hw⟩
def Vr (zs:List Int) (k:Nat) (done:List UInt8):Prop:=(Xq (zs.drop k)).map (fun cs=>done++Yh cs)=Vo zs
theorem Yq {zs:List Int} {k:Nat} {z:Int} (h:zs[k]? = some z):zs.drop k=z :: zs.drop (k+1):=by
 obtain ⟨hlt,rfl⟩:=List.getElem?_eq_some_iff.1 h;exact List.drop_eq_getElem_cons hlt
theorem Vr.one {zs:List Int} {k:Nat} {done:List UInt8} {z:Int} (h:Vr zs k done) (hz:zs[k]? = some z) (h0 : ¬ z < 0) (h1 : ¬ 65536≤z) (h2:X6 z=false):Vr zs (k+1) (done++Lib.encodeRune z):=by
 unfold Vr at *;rw [Yq hz,Po h0 h1 h2,Option.map_map] at h;rw [← h]
 congr 1
 funext cs
 simp [Yh,List.append_assoc]
theorem Vr.two {zs:List Int} {k:Nat} {done:List UInt8} {z y:Int} (h:Vr zs k done) (hz:zs[k]? = some z) (hy:zs[k+1]? = some y) (h0 : ¬ z < 0) (h1 : ¬ 65536≤z) (h2:X6 z=true) (h3:Ck z y=true) :
  Vr zs (k+2) (done++Lib.encodeRune (65536+1024*(z - 55296)+y - 56320)):=by
 unfold Vr at *;rw [Yq hz,Yq hy,Pj h0 h1 h2 h3,Option.map_map] at h;rw [← h]
 congr 1
 funext cs
 simp [Yh,List.append_assoc]
theorem Vr.no {zs:List Int} {k:Nat} {done:List UInt8} (h:Vr zs k done) (hn:Xq (zs.drop k)=none):Ii zs=⟨#[]⟩∧Yl zs=false:=by
 unfold Vr at h;rw [hn] at h;simp [Ii,Yl,← h]
theorem Vr.done {zs:List Int} {k:Nat} {done:List UInt8} (h:Vr zs k done) (hk:zs.length≤k):Ii zs=⟨done.toArray⟩∧Yl zs=true:=by
 unfold Vr at h;rw [List.drop_eq_nil_of_le hk] at h;simp [Xq,Yh] at h
 simp [Ii,Yl,← h]
theorem F4 (c:Int):(Lib.encodeRune c).length≤4:=by
 have:=(Lib.encodeRuneZ_length c).2
 simpa [Lib.encodeRune] using this
theorem Ygu (A:Option Addr) (n cap:Nat) (zs:List Int) (w:World) (hn:n≤1100000) (hz:Ln w w.heap.size A n zs) :
  Calls Tryz.prog 137 #[.slice A n cap] w fun e w'=>e=.returned (.tuple #[.string (Ii zs),.bool (Yl zs)])∧Below w.heap.size w w':=by
 have HZ:=Hd hz;clear hz
 go_enter Tryz.func137,Tryz.ntmps137
 go_wp2
 go_loopg [5] n (fun g i wx=>∃ k:Nat,k+g=n∧i=.int .i64 k∧Below w.heap.size w wx∧Aside (∃ done:List UInt8,done.length≤4*k∧Lib.IsBuilderF 137 5 w.heap.size w.heap.size (Lib.byteCells done) wx∧Vr zs k done))
 case atStart=>exact ⟨0,by omega,rfl,(Below.refl _ _).alloc (Nat.le_refl _) _,Aside.intro ⟨[],by simp,Lib.IsBuilderF.of (Lib.fresh_isBuilder _ _ _),by unfold Vr Vo;rw [List.drop_zero];rfl⟩⟩
 case round =>
  obtain ⟨k,hk,rfl,hb,H⟩:=hrel
  cases gk with
  | zero =>
    obtain rfl:k=n:=by omega
    obtain ⟨done,hd,hB,hJ⟩:=H.out;have hfin:=Hd (hJ.done (by rw [HZ.out.1];omega));have HC:=Hd (C6 w.heap.size w.heap.size done wr hB hb.size);clear H hB hJ;go_wp2_with fail
    refine HC.out.mono ?_;rintro e w1 ⟨rfl,_,hb1,_⟩;go_wp2_with fail
    go_ret2
    exact Js hfin.out.1 hfin.out.2 (hb.trans hb1)
  | succ g =>
    have hkn:k < n:=by omega
    have hkn':(k:Int) < (n:Int):=by omega
    obtain ⟨z,hzk⟩:∃ z,zs[k]? = some z:=⟨_,List.getElem?_eq_getElem (by rw [HZ.out.1];omega)⟩;obtain ⟨b,o,rfl,hblt,hcell⟩:=(HZ.out.below hb).2 k z hzk;have HK:=Hd hzk;clear hzk
    by_cases h0:z < 0
    · obtain ⟨done,hd,hB,hJ⟩:=H.out
      have hfin:=Hd (hJ.no (by rw [Yq HK.out];exact U7 (.inl h0)));clear H hB hJ hd;go_wp2_with fail
      go_ret2
      exact Js hfin.out.1 hfin.out.2 hb
    by_cases h1:65536≤z
    · obtain ⟨done,hd,hB,hJ⟩:=H.out
      have hfin:=Hd (hJ.no (by rw [Yq HK.out];exact U7 (.inr h1)));clear H hB hJ hd;go_wp2_with fail
      go_ret2
      exact Js hfin.out.1 hfin.out.2 hb
    cases hh:X6 z
    · obtain ⟨done,hd,hB,hJ⟩:=H.out
      have hJ':=Hd (hJ.one HK.out h0 h1 hh);have HW:=Hd (Zq3 w.heap.size w.heap.size (Lib.byteCells done) z (by omega) (by omega) wr hB (by rw [Lib.byteCells_length];omega) hb.size);have Hh:=Hd (Ei z wr);have hh':=Hd hh;clear H hB hJ hh;go_wp2_with fail
      refine Hh.out.mono ?_;rintro e w1 ⟨rfl,rfl⟩;rw [hh'.out];go_wp2_with fail
      refine HW.out.mono ?_;rintro e w2 ⟨rfl,hB2,hb2,_⟩;rw [← Lib.byteCells_encodeRune,← Lib.byteCells_append] at hB2;go_wp2_with fail
      go_roundg g
      case measure=>omega
      case rel=>exact ⟨k+1,by omega,by go_num,hb.trans hb2,Aside.intro ⟨_,by rw [List.length_append];have:=F4 z;omega,.inr hB2,hJ'.out⟩⟩
    · have Hh:=Hd (Ei z wr)
      have hh':=Hd hh;clear hh
      by_cases hlast:k+1=n
      · obtain ⟨done,hd,hB,hJ⟩:=H.out
        have hfin:=Hd (hJ.no (by rw [Yq HK.out,List.drop_eq_nil_of_le (by rw [HZ.out.1];omega)];exact Ej hh'.out));have e1:((k:Int)+1 == (n:Int))=true:=by simp;omega
        clear H hB hJ hd hlast;go_wp2_with fail
        refine Hh.out.mono ?_;rintro e w1 ⟨rfl,rfl⟩;rw [hh'.out];go_wp2_with fail
        go_ret2
        exact Js hfin.out.1 hfin.out.2 hb
      · have e1:((k:Int)+1 == (n:Int))=false:=by simp;omega
        have hk1:k+1 < n:=by omega
        have hk1':(k:Int)+1 < (n:Int):=by omega
        clear hlast;obtain ⟨y,hyk⟩:∃ y,zs[k+1]? = some y:=⟨_,List.getElem?_eq_getElem (by rw [HZ.out.1];omega)⟩;obtain ⟨b',o',e',hblt',hcell'⟩:=(HZ.out.below hb).2 (k+1) y hyk;obtain ⟨rfl,rfl⟩:b=b'∧o=o':=by injection e' with e';injection e' with e1 e2;exact ⟨e1,e2⟩
        clear e';have HK2:=Hd hyk;clear hyk;have Hp:=Hd (Yhb z y wr)
        cases hp:Ck z y
        · obtain ⟨done,hd,hB,hJ⟩:=H.out
          have hfin:=Hd (hJ.no (by rw [Yq HK.out,Yq HK2.out];exact F9 hh'.out hp));have hp':=Hd hp;clear H hB hJ hd hp;go_wp2_with fail
          refine Hh.out.mono ?_;rintro e w1 ⟨rfl,rfl⟩;rw [hh'.out];go_wp2_with fail
          refine Hp.out.mono ?_;rintro e w1 ⟨rfl,rfl⟩;rw [hp'.out];go_wp2_with fail
          go_ret2
          exact Js hfin.out.1 hfin.out.2 hb
        · obtain ⟨done,hd,hB,hJ⟩:=H.out
          have hp':=Hd hp;have hpp:55296≤z∧z < 56320∧56320≤y∧y≤57343:=by simpa [Ck] using hp
          obtain ⟨p1,p2,p3,p4⟩:=hpp;have hJ':=Hd (hJ.two HK.out HK2.out h0 h1 hh'.out hp);have HW:=Hd (Zq3 w.heap.size w.heap.size (Lib.byteCells done) (65536+1024*(z - 55296)+y - 56320) (by omega) (by omega) wr hB (by rw [Lib.byteCells_length];omega) hb.size);clear H hB hJ hp;go_wp2_with fail
          refine Hh.out.mono ?_;rintro e w1 ⟨rfl,rfl⟩;rw [hh'.out];go_wp2_with fail
          refine Hp.out.mono ?_;rintro e w1 ⟨rfl,rfl⟩;rw [hp'.out];go_wp2_with fail
          refine HW.out.mono ?_;rintro e w2 ⟨rfl,hB2,hb2,_⟩;rw [← Lib.byteCells_encodeRune,← Lib.byteCells_append] at hB2;go_wp2_with fail
          go_roundg (n - (k+2))
          case measure=>omega
          case rel=>exact ⟨k+2,by omega,by go_num,hb.trans hb2,Aside.intro ⟨_,by rw [List.length_append];have:=F4 (65536+1024*(z - 55296)+y - 56320);omega,.inr hB2,hJ'.out⟩⟩
theorem Z7 (s:ByteArray):s.data.toList.length=s.size:=Array.length_toList
theorem Ur (s:ByteArray) (k:Nat):(s.extract k s.size).size=s.size - k:=by simp
theorem Xm (s:ByteArray) (k:Nat):(s.extract k s.size).data.toList=s.data.toList.drop k:=by
 simp [ByteArray.data_extract,Array.toList_extract,List.extract]
 rw [← Z7 s];simp
 exact List.take_of_length_le (by simp)
theorem Cv (s:ByteArray) (n:Nat):(s.extract 0 n).data.toList=s.data.toList.take n:=by
 simp [ByteArray.data_extract,Array.toList_extract,List.extract]
theorem Zc (s:ByteArray) (k:Nat) (h:k < s.size):s.data.toList.drop k=s[k] :: s.data.toList.drop (k+1):=by
 have hl:k < s.data.toList.length:=by rw [Z7];exact h
 rw [List.drop_eq_getElem_cons hl]
 rfl
theorem Vf (s:ByteArray) (h:0 < s.size):s.data.toList=s[0] :: s.data.toList.drop 1:=by
 have:=Zc s 0 h
 rwa [List.drop_zero] at this
theorem Ys (s:ByteArray) (k:Nat) (h:s.size≤k):s.data.toList.drop k=[]:=List.drop_eq_nil_of_le (by rw [Z7];exact h)
theorem Jb {s:ByteArray} (h:s.size=0):s.data.toList=[]:=List.eq_nil_of_length_eq_zero (by rw [Z7];exact h)
theorem Lq {s:ByteArray} (h:s.size=0):s.toList.isEmpty=true:=by
 rw [Lib.toList_data,Jb h];rfl
theorem Eg {s:ByteArray} (h:0 < s.size):s.toList.isEmpty=false:=by
 rw [Lib.toList_data,Vf s h];rfl
theorem Qc (l:List UInt8):(⟨l.toArray⟩:ByteArray).size=l.length:=by
 show l.toArray.size=_;simp
theorem Gc {s:ByteArray} {l:List UInt8} (h:s.data.toList=l):(⟨l.toArray⟩:ByteArray)=s:=by subst h;simp
def Jh (p:UInt8→Bool):List UInt8→Bool
 | []=>false
 | b :: _=>p b
theorem Yls {a b:Bool} {w:World} (h:a=b):Ending.returned (.bool a)=.returned (.bool b)∧w=w:=⟨by rw [h],rfl⟩
theorem Jg {a b:Int} (h:a=b):Ending.returned (.int .i64 a)=.returned (.int .i64 b):=by rw [h]
theorem Yia (b:UInt8):Ip b=(decide ((48:Int)≤(b.toNat:Int)) && decide ((b.toNat:Int)≤(57:Int))):=by unfold Ip Ro;rw [Bool.decide_and]
theorem Pp (s:ByteArray) (w:World):Calls Tryz.prog 77 #[.string s] w fun e w'=>e=.returned (.bool (Jh Ip s.data.toList))∧w=w':=by
 rcases Nat.eq_zero_or_pos s.size with h0|h0
 · have hr:Jh Ip s.data.toList=false:=by rw [Jb h0];rfl
   have he:=Lq h0;rw [hr];clear hr
   go_enter Tryz.func77,Tryz.ntmps77
   go_wp2
   go_ret
   exact ⟨rfl,rfl⟩
 · have hr:Jh Ip s.data.toList=Ip s[0]:=by rw [Vf s h0];rfl
   have he:=Eg h0;rw [hr];have HD:Hid (Ip s[0]=(decide ((48:Int)≤(s[0].toNat:Int)) && decide ((s[0].toNat:Int)≤(57:Int)))):=Hd (Yia _);clear hr
   by_cases c1:(48:Int)≤(s[0].toNat:Int)
   · by_cases c2:(s[0].toNat:Int)≤(57:Int)
     · go_enter Tryz.func77,Tryz.ntmps77
       go_wp2
       go_ret
       exact Yls (by rw [HD.out];simp [c1,c2])
     · go_enter Tryz.func77,Tryz.ntmps77
       go_wp2
       go_ret
       exact Yls (by rw [HD.out];simp [c1,c2])
   · go_enter Tryz.func77,Tryz.ntmps77
     go_wp2
     go_ret
     exact Yls (by rw [HD.out];simp;omega)
theorem Zjw (s:ByteArray) (w:World):Calls Tryz.prog 76 #[.string s] w fun e w'=>e=.returned (.bool (Jh Wf s.data.toList))∧w=w':=by
 rcases Nat.eq_zero_or_pos s.size with h0|h0
 · have hr:Jh Wf s.data.toList=false:=by rw [Jb h0];rfl
   have he:=Lq h0;rw [hr];clear hr
   go_enter Tryz.func76,Tryz.ntmps76
   go_wp2
   go_ret
   exact ⟨rfl,rfl⟩
 · have hr:Jv (s.extract 0 1).data.toList=Jh Wf s.data.toList:=by rw [Cv,Vf s h0];simp [Jh,Jv,Wz,Wf]
   have he:=Eg h0;have h1:1≤s.size:=h0;have hN:=Dp (s.extract 0 1) w (by simp;omega);rw [hr] at hN;have HN:=Hd hN;clear hr hN
   go_enter Tryz.func76,Tryz.ntmps76
   go_wp2_with fail
   refine HN.out.mono ?_;rintro e w1 ⟨rfl,rfl⟩;go_wp2_with fail
   go_ret
   exact ⟨rfl,rfl⟩
theorem Yes {l:List UInt8} (h:Jh Ip l=false):Xe l=0:=by
 cases l with
 | nil=>rfl
 | cons b t=>unfold Xe;rw [List.takeWhile_cons];have:Ip b=false:=h;simp [this]
theorem Qj {b:UInt8} {t:List UInt8} (h:Ip b=true):Xe (b :: t)=1+Xe t:=by
 unfold Xe;rw [List.takeWhile_cons];simp [h];omega
theorem Zyp (s:ByteArray) (w:World) (hs:s.size≤1100000):Calls Tryz.prog 79 #[.string s] w fun e w'=>e=.returned (.int .i64 (Xe s.data.toList))∧w=w':=by
 go_enter Tryz.func79,Tryz.ntmps79
 go_wp2
 go_loopg [3] s.size (fun g i wx=>∃ k:Nat,k+g=s.size∧i=.int .i64 k∧w=wx∧Aside (Xe s.data.toList=k+Xe (s.data.toList.drop k)))
 case atStart=>exact ⟨0,by omega,rfl,rfl,Aside.intro (by simp)⟩
 case round =>
  obtain ⟨k,hk,rfl,rfl,H⟩:=hrel;have hks:(k:Int)≤(s.size:Int):=by omega
  have hk0:(0:Int)≤(k:Int):=by omega
  have hD:=Pp (s.extract k s.size) w;rw [Xm] at hD;have HD:=Hd hD;clear hD
  cases hb:Jh Ip (s.data.toList.drop k)
  · have hr:=Hd (H.out.trans (by rw [Yes hb]))
    have hb':=Hd hb;clear H hb;go_wp2_with fail
    refine HD.out.mono ?_;rintro e w1 ⟨rfl,rfl⟩;rw [hb'.out];go_wp2_with fail
    go_ret
    exact ⟨Jg (by rw [hr.out];simp),rfl⟩
  · have hkl:k < s.size:=by
     rcases Nat.lt_or_ge k s.size with h|h
     · exact h
     · rw [Ys s k h] at hb;cases hb
    have hr:Hid (Xe s.data.toList=(k+1:Nat)+Xe (s.data.toList.drop (k+1))):=Hd (by
     rw [Zc s k hkl] at hb;rw [H.out,Zc s k hkl,Qj hb];omega)
    have hb':=Hd hb;clear H hb;go_wp2_with fail
    refine HD.out.mono ?_;rintro e w1 ⟨rfl,rfl⟩;rw [hb'.out];go_wp2_with fail
    go_roundg (gk - 1)
    case measure=>omega
    case rel=>exact ⟨k+1,by omega,by go_num,rfl,Aside.intro hr.out⟩
end Go.Proofs.YtkmloefbkgcbkaaGreatDoor
