/- The walk of letters.Code: what it answers is the plain function 'dec' of the bytes from the place on; below the call's own blocks nothing has turned. -/
import Derived.Test.YtpkmbhnikilihaaGreatDoorQr3
set_option maxRecDepth 100000
set_option maxHeartbeats 2000000
namespace Go.Proofs.YtpkmbhnikilihaaGreatDoor
open Go.RowKit
def tab:List Int:=[0,128,0,192,224,128,224,240,2048,240,248,65536]
def Wy (w:World):Prop:=∀ (j:Nat) z,tab[j]? = some z→w.cell? ⟨1,j,none⟩=some (.int .i64 z)
def cells:Array Value:=#[.int .i64 0,.int .i64 128,.int .i64 0,.int .i64 192,.int .i64 224,.int .i64 128,.int .i64 224,.int .i64 240,.int .i64 2048,.int .i64 240,.int .i64 248,.int .i64 65536]
theorem Ynt (w:World):(Instr.index 267 (.agg cells) (.int .i64 0)).run Tryz.prog w=.ok (.agg #[.int .i64 0,.int .i64 128,.int .i64 0]) w:=by kernel_rfl
theorem Ynv (w:World):(Instr.index 267 (.agg cells) (.int .i64 1)).run Tryz.prog w=.ok (.agg #[.int .i64 192,.int .i64 224,.int .i64 128]) w:=by kernel_rfl
theorem Ynx (w:World):(Instr.index 267 (.agg cells) (.int .i64 2)).run Tryz.prog w=.ok (.agg #[.int .i64 224,.int .i64 240,.int .i64 2048]) w:=by kernel_rfl
theorem Yny (w:World):(Instr.index 267 (.agg cells) (.int .i64 3)).run Tryz.prog w=.ok (.agg #[.int .i64 240,.int .i64 248,.int .i64 65536]) w:=by kernel_rfl
theorem idx {n:Nat} (hn:n < 4) (w:World):(Instr.index 267 (.agg cells) (.int .i64 n)).run Tryz.prog w=.ok (.agg #[.int .i64 (U0 n),.int .i64 (Yle n),.int .i64 (Lp n)]) w:=by
 match n,hn with
 | 0,_=>exact Ynt w
 | 1,_=>exact Ynv w
 | 2,_=>exact Ynx w
 | 3,_=>exact Yny w
theorem Yhw {a b:Int} (h:a=b):(a != b)=false:=by simp [h]
theorem Yb4 {a b:Int} (h : ¬ a=b):(a != b)=true:=by simp [h]
theorem Zkp {a b c d:Int} {w w':World} {B:Nat} {p:Int × Int} (h:(c,d)=p) (ha:a=c) (hb:b=d) (hw:Below B w w') :
 Ending.returned (.tuple #[.int .i64 a,.int .i64 b])=.returned (.tuple #[.int .i64 p.1,.int .i64 p.2])∧Below B w w':=by subst h ha hb;exact ⟨rfl,hw⟩
theorem Yja (s : ByteArray) (i:Nat) (w:World) (hs:s.size≤1100000) (hi:i < s.size) (ht:Wy w) :
  Calls Tryz.prog 250 #[.string s,.int .i64 i] w fun e w'=>e=.returned (.tuple #[.int .i64 (dec (s.data.toList.drop i)).1,.int .i64 (dec (s.data.toList.drop i)).2])∧Below w.heap.size w w':=by
 have t0:=ht 0 _ rfl
 have t1:=ht 1 _ rfl
 have t2:=ht 2 _ rfl
 have t3:=ht 3 _ rfl
 have t4:=ht 4 _ rfl
 have t5:=ht 5 _ rfl
 have t6:=ht 6 _ rfl
 have t7:=ht 7 _ rfl
 have t8:=ht 8 _ rfl
 have t9:=ht 9 _ rfl
 have t10:=ht 10 _ rfl
 have t11:=ht 11 _ rfl
 clear ht
 have hlen:Hid ((s.data.toList.drop i).length=s.size - i):=Hd (by rw [List.length_drop,Lib.size_eq])
 have hb0:=Lw (s.data.toList.drop i) 0
 have e0:(s[i].toNat:Int)=byt (s.data.toList.drop i) 0:=Xz s i 0 hi
 have eb:=Xz s i
 generalize hl:s.data.toList.drop i=l at *
 have HL:=Hd hl
 clear hl
 have EB:=Hd eb
 clear eb
 have E0:=Hd e0
 clear e0
 have hb0':=hb0.1
 have hb0'':=hb0.2
 clear hb0
 have g1:(s[i].toNat:Int) < 256:=by rw [E0.out];exact hb0''
 have d1:decide (s.size≤i)=false:=by simpa using hi
 have d2:decide ((i:Int) < 0)=false:=by simp
 go_enter Tryz.func250,Tryz.ntmps250
 go_wp2
 go_step3
 go_wp2
 go_step3
 go_wp2
 clear t0 t1 t2 t3 t4 t5 t6 t7 t8 t9 t10 t11
 go_loopg [21] 4 (fun g k wx=>∃ n:Nat,n+g=4∧k=.int .i64 n∧Below w.heap.size w wx∧Aside (Da l n))
 case atStart=>exact ⟨0,by omega,rfl,Below.refl _ _,Aside.intro (fun j hj=>by omega)⟩
 case round =>
  obtain ⟨n,hn,rfl,hb,HN⟩:=hrel
  have e0:=E0.out
  cases gk with
  | zero =>
    obtain rfl:n=4:=by omega
    have hd:=Hd (Dg HN.out)
    clear HN e0
    go_wp2
    try rw [Exit.noGoto_ret]
    go_ret2
    exact Zkp hd.out.symm rfl rfl hb
  | succ g =>
    have hn4:n < 4:=by omega
    have hn4':(n:Int) < 4:=by omega
    have ix:=idx hn4
    unfold cells at ix
    have hm:=Yf1 hn4 hb0' hb0''
    have hb2:=fun (o:Obj)=>hb.alloc hb.size o
    by_cases hL:Xr n (byt l 0)
    · have m1 := Yhw (hm.1.2 hL)
      have m2:=hm.2 hL
      clear hm
      by_cases hk:n < s.size - i
      · have hk' : (n:Int) < (s.size:Int) - (i:Int):=by omega
        have d3:decide ((s.size:Int) - (i:Int)≤(n:Int))=false:=by simp;omega
        have hb3:=Hd hb2
        clear hb2
        go_wp2
        clear ix m1 m2 e0
        go_loopg [9,10] n (fun g2 c k wy=>∃ j:Nat,1≤j∧j+g2=n+1∧k=.int .i64 j∧c=.int .i64 (acc l (byt l 0 - U0 n) j)∧Aside (Xy l j=true) ∧
         wr.alloc (.cells #[.int .i64 (U0 n),.int .i64 (Yle n),.int .i64 (Lp n)] 266)=wy)
        case atStart=>exact ⟨1,by omega,by omega,rfl,rfl,Aside.intro rfl,rfl⟩
        case round =>
         obtain ⟨j,hj1,hjg,rfl,rfl,HC,rfl⟩:=hrel
         have hls:=Hd (Zko hL)
         have hsm:=Lt (l:=l) hls.out.1 hls.out.2 (by omega) HC.out
         have hsm1:=hsm.1
         have hsm2:=hsm.2
         clear hsm
         cases gk with
         | zero =>
           obtain rfl:j=n+1:=by omega
           have hy:=fun h=>Hd (Ez hn4 HN.out (Zjq (by rw [hlen.out];exact hk) hL HC.out h))
           have hnf:=fun h=>Hd (Je HN.out (Fj (l:=l) (k:=n) h))
           unfold Qn at hy hnf
           generalize acc l (byt l 0 - U0 n) (n+1)=C at *
           clear HC HN
           by_cases f1:Lp n≤C
           · by_cases f2:C≤1114111
             · cases f3:X3 C
               · have hy2:=hy ⟨f1,f2,f3⟩
                 clear hy hnf
                 go_wp2_with (go_at_call 283;refine (Gc _ _).mono ?_;rintro e w' ⟨rfl,rfl⟩)
                 try rw [Exit.noGoto_ret]
                 go_ret2
                 exact Zkp hy2.out.symm rfl rfl (hb3.out _)
               · have hn2:=hnf (by rintro ⟨_,_,h⟩;rw [f3] at h;cases h)
                 clear hy hnf
                 go_wp2_with (go_at_call 283;refine (Gc _ _).mono ?_;rintro e w' ⟨rfl,rfl⟩)
                 go_roundg g
                 case measure=>omega
                 case rel=>exact ⟨n+1,by omega,by go_num,hb3.out _,Aside.intro hn2.out⟩
             · have hn2:=hnf (by rintro ⟨_,h,_⟩;exact f2 h)
               clear hy hnf
               go_wp2_with (go_at_call 283;refine (Gc _ _).mono ?_;rintro e w' ⟨rfl,rfl⟩)
               go_roundg g
               case measure=>omega
               case rel=>exact ⟨n+1,by omega,by go_num,hb3.out _,Aside.intro hn2.out⟩
           · have hn2:=hnf (by rintro ⟨h,_,_⟩;exact f1 h)
             clear hy hnf
             go_wp2_with (go_at_call 283;refine (Gc _ _).mono ?_;rintro e w' ⟨rfl,rfl⟩)
             go_roundg g
             case measure=>omega
             case rel=>exact ⟨n+1,by omega,by go_num,hb3.out _,Aside.intro hn2.out⟩
         | succ g2 =>
           have hjn:(j:Int)≤(n:Int):=by omega
           have hij:i+j < s.size:=by omega
           have ej:=EB.out j hij
           have hbj:=Lw l j
           have hbj1:=hbj.1
           have hbj2:=hbj.2
           clear hbj
           have htl:=Dq hbj1 hbj2
           by_cases hc:V3 (byt l j)=true
           · have m1:=Yhw (htl.1.2 hc)
             have m2:=htl.2 hc
             have hcc:128≤byt l j∧byt l j≤191:=by simpa [V3] using hc
             have m3:=Zk9 (c:=acc l (byt l 0 - U0 n) j) (d:=byt l j - 128) (by omega) (by omega) (by omega) (by omega)
             have hx:=Hd hcc
             have hs1:=Hd (Dk (l:=l) (c:=byt l 0 - U0 n) hj1)
             have hs2:=Hd (Fq hj1 HC.out hc)
             clear htl hc hcc HC
             go_wp2
             go_roundg g2
             case measure=>omega
             case rel=>exact ⟨j+1,by omega,by omega,by go_num,by rw [hs1.out],Aside.intro hs2.out,rfl⟩
           · have m1:=Yb4 (fun h=>hc (htl.1.1 h))
             have hn2:=Hd (Je HN.out (U7 (k:=n) hj1 (by omega) hc))
             clear htl hc HC HN
             go_wp2
             go_roundg g
             case measure=>omega
             case rel=>exact ⟨n+1,by omega,by go_num,hb3.out _,Aside.intro hn2.out⟩
      · have hk' : ¬ ((n:Int) < (s.size:Int) - (i:Int)):=by omega
        have hn2:=Hd (Je HN.out (Ga (l:=l) (k:=n) (by rw [hlen.out];exact hk)))
        have hb3:=Hd hb2
        clear HN hb2
        go_wp2
        go_roundg g
        case measure=>omega
        case rel=>exact ⟨n+1,by omega,by go_num,hb3.out _,Aside.intro hn2.out⟩
    · have m1:=Yb4 (fun h=>hL (hm.1.1 h))
      have hn2:=Hd (Je HN.out (Gh hL))
      have hb3:=Hd hb2
      clear hm HN hb2
      go_wp2
      go_roundg g
      case measure=>omega
      case rel=>exact ⟨n+1,by omega,by go_num,hb3.out _,Aside.intro hn2.out⟩
theorem Wy.lt {w:World} (h:Wy w):1 < w.heap.size:=by
 rcases Nat.lt_or_ge 1 w.heap.size with h'|h'
 · exact h'
 · have:=h 0 0 rfl
   simp [World.cell?,Array.getElem?_eq_none h'] at this
theorem Wy.below {w w':World} {B:Nat} (h:Wy w) (hb:Below B w w') (hB:1 < B):Wy w':=fun j z hz=>(hb.cell (p:=⟨1,j,none⟩) hB).trans (h j z hz)
def Db (s:ByteArray) (i:Int):Int × Int:=if 0≤i∧i < s.size then dec (s.data.toList.drop i.toNat) else (0,0)
theorem Yb0 (fn:Nat) (p:Int→Bool) (he:∀ args w,(callFunc fn args).run Tryz.prog w=.ok (.enter fn args) w) (hp:∀ (c:Int) (w:World),Calls Tryz.prog fn #[.int .i64 c] w fun e w'=>e=.returned (.bool (p c))∧w=w') (s:ByteArray) (w:World) (hs:s.size≤1100000) (ht:Wy w) :
  Calls Tryz.prog 201 #[.string s,.func (.func fn) #[] #[]] w fun e w'=>e=.returned (.bool (F0 p s.data.toList))∧Below w.heap.size w w':=by
 have HP:=Hd hp
 have HT:=Hd ht
 clear hp ht
 have hlen:s.data.toList.length=s.size:=Array.length_toList
 have HL:=Hd hlen
 clear hlen
 go_enter Tryz.func201,Tryz.ntmps201
 go_wp2
 go_loopg [5] s.size (fun g i wx=>∃ k:Nat,k+g=s.size∧i=.int .i64 k∧Below w.heap.size w wx∧Aside (F0 p (s.data.toList.drop k)=F0 p s.data.toList))
 case atStart=>exact ⟨0,by omega,rfl,Below.refl _ _,Aside.intro rfl⟩
 case round =>
  obtain ⟨k,hk,rfl,hb,H⟩:=hrel
  cases gk with
  | zero =>
    obtain rfl:k=s.size:=by omega
    have h2:Hid (F0 p s.data.toList=true):=Hd (by rw [← H.out,List.drop_eq_nil_of_le (by rw [HL.out];omega)];rfl)
    clear H
    go_wp2
    go_ret
    exact ⟨Yy h2.out.symm,hb⟩
  | succ g =>
    have hlt:k < s.size:=by omega
    have hlt':(k:Int) < (s.size:Int):=by omega
    have hne:Hid (s.data.toList.drop k ≠ []):=Hd (fun e=>by have:=congrArg List.length e;rw [List.length_drop,HL.out] at this;simp at this;omega)
    have hdl:Hid ((s.data.toList.drop k).length=s.size - k):=Hd (by rw [List.length_drop,HL.out])
    have hbd:=Bg (s.data.toList.drop k)
    have hcode:=Yja s k wr hs hlt (HT.out.below hb HT.out.lt)
    have hst:=Hd (Oh (p:=p) (l:=s.data.toList.drop k) hne.out)
    have hbad:=Hd (Yad (p:=p) (l:=s.data.toList.drop k) hne.out)
    generalize dec (s.data.toList.drop k)=d at *
    obtain ⟨c,n⟩:=d
    simp only at hbd hcode hst hbad
    obtain ⟨b1,b2,b3,b4,b5,b6⟩:=hbd
    rw [hdl.out] at b3
    have HC:=Hd hcode
    clear hcode b6
    by_cases hn:n=0
    · have hfin:Hid (F0 p s.data.toList=false):=Hd (by rw [← H.out];exact hbad.out hn)
      have z0:(n == 0)=true:=by simp [hn]
      clear H hst hbad hn
      go_wp2_with fail
      refine HC.out.mono ?_
      rintro e w1 ⟨rfl,hb1⟩
      go_wp2_with fail
      go_ret
      exact ⟨Yy hfin.out.symm,hb.trans (hb1.mono hb.size)⟩
    · have z0:(n == 0)=false:=by simp [hn]
      cases hpc:p c
      · have hfin:Hid (F0 p s.data.toList=false):=Hd (by rw [← H.out,hst.out hn,hpc];rfl)
        have hpc':=Hd hpc
        clear H hst hbad hn hpc
        go_wp2_with fail
        refine HC.out.mono ?_
        rintro e w1 ⟨rfl,hb1⟩
        go_wp2_with fail
        refine (HP.out _ _).mono ?_
        rintro e w2 ⟨rfl,rfl⟩
        rw [hpc'.out]
        go_wp2_with fail
        go_ret
        exact ⟨Yy hfin.out.symm,hb.trans (hb1.mono hb.size)⟩
      · have hfin:Hid (F0 p ((s.data.toList.drop k).drop n.toNat)=F0 p s.data.toList):=Hd (by rw [← H.out,hst.out hn,hpc];rfl)
        have hpc':=Hd hpc
        have hn1:1≤n:=by omega
        clear H hst hbad hn hpc
        go_wp2_with fail
        refine HC.out.mono ?_
        rintro e w1 ⟨rfl,hb1⟩
        go_wp2_with fail
        refine (HP.out _ _).mono ?_
        rintro e w2 ⟨rfl,rfl⟩
        rw [hpc'.out]
        go_wp2_with fail
        obtain ⟨m,rfl⟩:=Int.eq_ofNat_of_zero_le b1
        go_roundg (s.size - (k+m))
        case measure=>omega
        case rel=>exact ⟨k+m,by omega,by go_num,hb.trans (hb1.mono hb.size),Aside.intro (by rw [← hfin.out,List.drop_drop];rfl)⟩
theorem Ydp (c:Int) (w:World):Calls Tryz.prog 222 #[.int .i64 c] w fun e w'=>e=.returned (.bool (Ybz c))∧w=w':=by
 go_enter Tryz.func222,Tryz.ntmps222
 go_wp2
 all_goals go_ret
 all_goals (refine Ie ?_;simp [Ybz];try omega)
theorem Zv9 (s:ByteArray) (w:World) (hs:s.size≤1100000) (ht:Wy w):Calls Tryz.prog 165 #[.string s] w fun e w'=>e=.returned (.bool (Yz s.data.toList))∧Below w.heap.size w w':=by
 have H:=Hd (Yb0 222 Ybz (Go.Proofs.enters_of Tryz.func222 (by kernel_rfl) rfl) Ydp s w hs ht)
 go_enter Tryz.func165,Tryz.ntmps165
 go_wp2_with fail
 refine H.out.mono ?_
 rintro e w' ⟨rfl,hb⟩
 go_wp2_with fail
 go_ret
 exact ⟨rfl,hb⟩
def Ln (w:World) (B:Nat) (A:Option Addr) (n:Nat) (zs:List Int):Prop:=
 zs.length=n∧∀ (j:Nat) z,zs[j]? = some z→∃ b o,A=some ⟨b,o,none⟩∧b < B∧w.cell? ⟨b,o+j,none⟩=some (.int .i64 z)
theorem Ln.below {w w':World} {B:Nat} {A:Option Addr} {n:Nat} {zs:List Int} (h:Ln w B A n zs) (hb:Below B w w'):Ln w' B A n zs:=
 ⟨h.1,fun j z hz=>by
  obtain ⟨b,o,e,hlt,hc⟩:=h.2 j z hz
  exact ⟨b,o,e,hlt,(hb.cell (p:=⟨b,o+j,none⟩) hlt).trans hc⟩⟩
theorem Ln.more {w:World} {B B':Nat} {A:Option Addr} {n:Nat} {zs:List Int} (h:Ln w B A n zs) (hB:B≤B'):Ln w B' A n zs:=
 ⟨h.1,fun j z hz=>by
  obtain ⟨b,o,e,hlt,hc⟩:=h.2 j z hz
  exact ⟨b,o,e,by omega,hc⟩⟩
def Ii (zs:List Int):ByteArray:=match Vq zs with|some l=>⟨l.toArray⟩|none=>⟨#[]⟩
def Yi (zs:List Int):Bool:=(Vq zs).isSome
theorem V0 {zs:List Int} {s:ByteArray} {b:Bool} {B:Nat} {w w':World} (h1:Ii zs=s) (h2:Yi zs=b) (hw:Below B w w') :
 Ending.returned (.tuple #[.string s,.bool b])=.returned (.tuple #[.string (Ii zs),.bool (Yi zs)])∧Below B w w':=by subst h1 h2;exact ⟨rfl,hw⟩
def Vt (zs:List Int) (k:Nat) (done:List UInt8):Prop:=(Xt (zs.drop k)).map (fun cs=>done++Yf cs)=Vq zs
theorem Yo {zs:List Int} {k:Nat} {z:Int} (h:zs[k]? = some z):zs.drop k=z :: zs.drop (k+1):=by
 obtain ⟨hlt,rfl⟩:=List.getElem?_eq_some_iff.1 h
 exact List.drop_eq_getElem_cons hlt
theorem Vt.one {zs:List Int} {k:Nat} {done:List UInt8} {z:Int} (h:Vt zs k done) (hz:zs[k]? = some z) (h0 : ¬ z < 0) (h1 : ¬ 65536≤z) (h2:X3 z=false):Vt zs (k+1) (done++Lib.encodeRune z):=by
 unfold Vt at *
 rw [Yo hz,Ne h0 h1 h2,Option.map_map] at h
 rw [← h]
 congr 1
 funext cs
 simp [Yf,List.append_assoc]
theorem Vt.two {zs:List Int} {k:Nat} {done:List UInt8} {z y:Int} (h:Vt zs k done) (hz:zs[k]? = some z) (hy:zs[k+1]? = some y) (h0 : ¬ z < 0) (h1 : ¬ 65536≤z) (h2:X3 z=true) (h3:Ct z y=true) :
  Vt zs (k+2) (done++Lib.encodeRune (65536+1024*(z - 55296)+y - 56320)):=by
 unfold Vt at *
 rw [Yo hz,Yo hy,Nf h0 h1 h2 h3,Option.map_map] at h
 rw [← h]
 congr 1
 funext cs
 simp [Yf,List.append_assoc]
theorem Vt.no {zs:List Int} {k:Nat} {done:List UInt8} (h:Vt zs k done) (hn:Xt (zs.drop k)=none):Ii zs=⟨#[]⟩∧Yi zs=false:=by
 unfold Vt at h
 rw [hn] at h
 simp [Ii,Yi,← h]
theorem Vt.done {zs:List Int} {k:Nat} {done:List UInt8} (h:Vt zs k done) (hk:zs.length≤k):Ii zs=⟨done.toArray⟩∧Yi zs=true:=by
 unfold Vt at h
 rw [List.drop_eq_nil_of_le hk] at h
 simp [Xt,Yf] at h
 simp [Ii,Yi,← h]
theorem Fe (c:Int):(Lib.encodeRune c).length≤4:=by
 have:=(Lib.encodeRuneZ_length c).2
 simpa [Lib.encodeRune] using this
theorem Yeh (A:Option Addr) (n cap:Nat) (zs:List Int) (w:World) (hn:n≤1100000) (hz:Ln w w.heap.size A n zs) :
  Calls Tryz.prog 290 #[.slice A n cap] w fun e w'=>e=.returned (.tuple #[.string (Ii zs),.bool (Yi zs)])∧Below w.heap.size w w':=by
 have HZ:=Hd hz
 clear hz
 go_enter Tryz.func290,Tryz.ntmps290
 go_wp2
 go_loopg [5] n (fun g i wx=>∃ k:Nat,k+g=n∧i=.int .i64 k∧Below w.heap.size w wx∧Aside (∃ done:List UInt8,done.length≤4*k∧Lib.IsBuilderF 102 5 w.heap.size w.heap.size (Lib.byteCells done) wx∧Vt zs k done))
 case atStart=>exact ⟨0,by omega,rfl,(Below.refl _ _).alloc (Nat.le_refl _) _,Aside.intro ⟨[],by simp,Lib.IsBuilderF.of (Lib.fresh_isBuilder _ _ _),by unfold Vt Vq;rw [List.drop_zero];rfl⟩⟩
 case round =>
  obtain ⟨k,hk,rfl,hb,H⟩:=hrel
  cases gk with
  | zero =>
    obtain rfl:k=n:=by omega
    obtain ⟨done,hd,hB,hJ⟩:=H.out
    have hfin:=Hd (hJ.done (by rw [HZ.out.1];omega))
    have HC:=Hd (Gy w.heap.size w.heap.size done wr hB hb.size)
    clear H hB hJ
    go_wp2_with fail
    refine HC.out.mono ?_
    rintro e w1 ⟨rfl,_,hb1,_⟩
    go_wp2_with fail
    go_ret2
    exact V0 hfin.out.1 hfin.out.2 (hb.trans hb1)
  | succ g =>
    have hkn:k < n:=by omega
    have hkn':(k:Int) < (n:Int):=by omega
    obtain ⟨z,hzk⟩:∃ z,zs[k]? = some z:=⟨_,List.getElem?_eq_getElem (by rw [HZ.out.1];omega)⟩
    obtain ⟨b,o,rfl,hblt,hcell⟩:=(HZ.out.below hb).2 k z hzk
    have HK:=Hd hzk
    clear hzk
    by_cases h0:z < 0
    · obtain ⟨done,hd,hB,hJ⟩:=H.out
      have hfin:=Hd (hJ.no (by rw [Yo HK.out];exact U9 (.inl h0)))
      clear H hB hJ hd
      go_wp2_with fail
      go_ret2
      exact V0 hfin.out.1 hfin.out.2 hb
    by_cases h1:65536≤z
    · obtain ⟨done,hd,hB,hJ⟩:=H.out
      have hfin:=Hd (hJ.no (by rw [Yo HK.out];exact U9 (.inr h1)))
      clear H hB hJ hd
      go_wp2_with fail
      go_ret2
      exact V0 hfin.out.1 hfin.out.2 hb
    cases hh:X3 z
    · obtain ⟨done,hd,hB,hJ⟩:=H.out
      have hJ':=Hd (hJ.one HK.out h0 h1 hh)
      have HW:=Hd (S9 w.heap.size w.heap.size (Lib.byteCells done) z (by omega) (by omega) wr hB (by rw [Lib.byteCells_length];omega) hb.size)
      have Hh:=Hd (Gc z wr)
      have hh':=Hd hh
      clear H hB hJ hh
      go_wp2_with fail
      refine Hh.out.mono ?_
      rintro e w1 ⟨rfl,rfl⟩
      rw [hh'.out]
      go_wp2_with fail
      refine HW.out.mono ?_
      rintro e w2 ⟨rfl,hB2,hb2,_⟩
      rw [← Lib.byteCells_encodeRune,← Lib.byteCells_append] at hB2
      go_wp2_with fail
      go_roundg g
      case measure=>omega
      case rel=>exact ⟨k+1,by omega,by go_num,hb.trans hb2,Aside.intro ⟨_,by rw [List.length_append];have:=Fe z;omega,.inr hB2,hJ'.out⟩⟩
    · have Hh:=Hd (Gc z wr)
      have hh':=Hd hh
      clear hh
      by_cases hlast:k+1=n
      · obtain ⟨done,hd,hB,hJ⟩:=H.out
        have hfin:=Hd (hJ.no (by rw [Yo HK.out,List.drop_eq_nil_of_le (by rw [HZ.out.1];omega)];exact Ex hh'.out))
        have e1:((k:Int)+1 == (n:Int))=true:=by simp;omega
        clear H hB hJ hd hlast
        go_wp2_with fail
        refine Hh.out.mono ?_
        rintro e w1 ⟨rfl,rfl⟩
        rw [hh'.out]
        go_wp2_with fail
        go_ret2
        exact V0 hfin.out.1 hfin.out.2 hb
      · have e1:((k:Int)+1 == (n:Int))=false:=by simp;omega
        have hk1:k+1 < n:=by omega
        have hk1':(k:Int)+1 < (n:Int):=by omega
        clear hlast
        obtain ⟨y,hyk⟩:∃ y,zs[k+1]? = some y:=⟨_,List.getElem?_eq_getElem (by rw [HZ.out.1];omega)⟩
        obtain ⟨b',o',e',hblt',hcell'⟩:=(HZ.out.below hb).2 (k+1) y hyk
        obtain ⟨rfl,rfl⟩:b=b'∧o=o':=by injection e' with e';injection e' with e1 e2;exact ⟨e1,e2⟩
        clear e'
        have HK2:=Hd hyk
        clear hyk
        have Hp:=Hd (Ye9 z y wr)
        cases hp:Ct z y
        · obtain ⟨done,hd,hB,hJ⟩:=H.out
          have hfin:=Hd (hJ.no (by rw [Yo HK.out,Yo HK2.out];exact F9 hh'.out hp))
          have hp':=Hd hp
          clear H hB hJ hd hp
          go_wp2_with fail
          refine Hh.out.mono ?_
          rintro e w1 ⟨rfl,rfl⟩
          rw [hh'.out]
          go_wp2_with fail
          refine Hp.out.mono ?_
          rintro e w1 ⟨rfl,rfl⟩
          rw [hp'.out]
          go_wp2_with fail
          go_ret2
          exact V0 hfin.out.1 hfin.out.2 hb
        · obtain ⟨done,hd,hB,hJ⟩:=H.out
          have hp':=Hd hp
          have hpp:55296≤z∧z < 56320∧56320≤y∧y≤57343:=by simpa [Ct] using hp
          obtain ⟨p1,p2,p3,p4⟩:=hpp
          have hJ':=Hd (hJ.two HK.out HK2.out h0 h1 hh'.out hp)
          have HW:=Hd (S9 w.heap.size w.heap.size (Lib.byteCells done) (65536+1024*(z - 55296)+y - 56320) (by omega) (by omega) wr hB (by rw [Lib.byteCells_length];omega) hb.size)
          clear H hB hJ hp
          go_wp2_with fail
          refine Hh.out.mono ?_
          rintro e w1 ⟨rfl,rfl⟩
          rw [hh'.out]
          go_wp2_with fail
          refine Hp.out.mono ?_
          rintro e w1 ⟨rfl,rfl⟩
          rw [hp'.out]
          go_wp2_with fail
          refine HW.out.mono ?_
          rintro e w2 ⟨rfl,hB2,hb2,_⟩
          rw [← Lib.byteCells_encodeRune,← Lib.byteCells_append] at hB2
          go_wp2_with fail
          go_roundg (n - (k+2))
          case measure=>omega
          case rel=>exact ⟨k+2,by omega,by go_num,hb.trans hb2,Aside.intro ⟨_,by rw [List.length_append];have:=Fe (65536+1024*(z - 55296)+y - 56320);omega,.inr hB2,hJ'.out⟩⟩
theorem Us (s:ByteArray) (k:Nat):(s.extract k s.size).size=s.size - k:=by simp
theorem Xl (s:ByteArray) (k:Nat):(s.extract k s.size).data.toList=s.data.toList.drop k:=by
 simp [ByteArray.data_extract,Array.toList_extract,List.extract]
 rw [← Z6 s]
 simp
 exact List.take_of_length_le (by simp)
theorem Cq (s:ByteArray) (n:Nat):(s.extract 0 n).data.toList=s.data.toList.take n:=by
 simp [ByteArray.data_extract,Array.toList_extract,List.extract]
theorem Z9 (s:ByteArray) (k:Nat) (h:k < s.size):s.data.toList.drop k=s[k] :: s.data.toList.drop (k+1):=by
 have hl:k < s.data.toList.length:=by rw [Z6];exact h
 rw [List.drop_eq_getElem_cons hl]
 rfl
theorem Vi (s:ByteArray) (h:0 < s.size):s.data.toList=s[0] :: s.data.toList.drop 1:=by
 have:=Z9 s 0 h
 rwa [List.drop_zero] at this
theorem Yp (s:ByteArray) (k:Nat) (h:s.size≤k):s.data.toList.drop k=[]:=List.drop_eq_nil_of_le (by rw [Z6];exact h)
theorem J9 {s:ByteArray} (h:s.size=0):s.data.toList=[]:=List.eq_nil_of_length_eq_zero (by rw [Z6];exact h)
theorem Eb {s:ByteArray} (h:s.size=0):s.toList.isEmpty=true:=by
 rw [Lib.toList_data,J9 h];rfl
theorem Ge {s:ByteArray} (h:0 < s.size):s.toList.isEmpty=false:=by
 rw [Lib.toList_data,Vi s h];rfl
theorem Qf (l:List UInt8):(⟨l.toArray⟩:ByteArray).size=l.length:=by
 show l.toArray.size=_
 simp
def Jg (p:UInt8→Bool):List UInt8→Bool
 | []=>false
 | b :: _=>p b
theorem Yju {a b:Bool} {w:World} (h:a=b):Ending.returned (.bool a)=.returned (.bool b)∧w=w:=⟨by rw [h],rfl⟩
theorem Jy {a b:Int} (h:a=b):Ending.returned (.int .i64 a)=.returned (.int .i64 b):=by rw [h]
theorem Yfd (b:UInt8):Iu b=(decide ((48:Int)≤(b.toNat:Int)) && decide ((b.toNat:Int)≤(57:Int))):=by unfold Iu Qt;rw [Bool.decide_and]
theorem Np (s:ByteArray) (w:World):Calls Tryz.prog 224 #[.string s] w fun e w'=>e=.returned (.bool (Jg Iu s.data.toList))∧w=w':=by
 rcases Nat.eq_zero_or_pos s.size with h0|h0
 · have hr:Jg Iu s.data.toList=false:=by rw [J9 h0];rfl
   have he:=Eb h0
   rw [hr]
   clear hr
   go_enter Tryz.func224,Tryz.ntmps224
   go_wp2
   go_ret
   exact ⟨rfl,rfl⟩
 · have hr:Jg Iu s.data.toList=Iu s[0]:=by rw [Vi s h0];rfl
   have he:=Ge h0
   rw [hr]
   have HD:Hid (Iu s[0]=(decide ((48:Int)≤(s[0].toNat:Int)) && decide ((s[0].toNat:Int)≤(57:Int)))):=Hd (Yfd _)
   clear hr
   by_cases c1:(48:Int)≤(s[0].toNat:Int)
   · by_cases c2:(s[0].toNat:Int)≤(57:Int)
     · go_enter Tryz.func224,Tryz.ntmps224
       go_wp2
       go_ret
       exact Yju (by rw [HD.out];simp [c1,c2])
     · go_enter Tryz.func224,Tryz.ntmps224
       go_wp2
       go_ret
       exact Yju (by rw [HD.out];simp [c1,c2])
   · go_enter Tryz.func224,Tryz.ntmps224
     go_wp2
     go_ret
     exact Yju (by rw [HD.out];simp;omega)
theorem Zj4 (s:ByteArray) (w:World):Calls Tryz.prog 223 #[.string s] w fun e w'=>e=.returned (.bool (Jg Wj s.data.toList))∧w=w':=by
 rcases Nat.eq_zero_or_pos s.size with h0|h0
 · have hr:Jg Wj s.data.toList=false:=by rw [J9 h0];rfl
   have he:=Eb h0
   rw [hr]
   clear hr
   go_enter Tryz.func223,Tryz.ntmps223
   go_wp2
   go_ret
   exact ⟨rfl,rfl⟩
 · have hr:Uk (s.extract 0 1).data.toList=Jg Wj s.data.toList:=by rw [Cq,Vi s h0];simp [Jg,Uk,Og,Wj]
   have he:=Ge h0
   have h1:1≤s.size:=h0
   have hN:=Zks (s.extract 0 1) w (by simp;omega)
   rw [hr] at hN
   have HN:=Hd hN
   clear hr hN
   go_enter Tryz.func223,Tryz.ntmps223
   go_wp2_with fail
   refine HN.out.mono ?_
   rintro e w1 ⟨rfl,rfl⟩
   go_wp2_with fail
   go_ret
   exact ⟨rfl,rfl⟩
theorem Ycn {l:List UInt8} (h:Jg Iu l=false):Xe l=0:=by
 cases l with
 | nil=>rfl
 | cons b t=>unfold Xe;rw [List.takeWhile_cons];have:Iu b=false:=h;simp [this]
theorem Qa {b:UInt8} {t:List UInt8} (h:Iu b=true):Xe (b :: t)=1+Xe t:=by
 unfold Xe;rw [List.takeWhile_cons];simp [h];omega
theorem Zxl (s:ByteArray) (w:World) (hs:s.size≤1100000):Calls Tryz.prog 226 #[.string s] w fun e w'=>e=.returned (.int .i64 (Xe s.data.toList))∧w=w':=by
 go_enter Tryz.func226,Tryz.ntmps226
 go_wp2
 go_loopg [3] s.size (fun g i wx=>∃ k:Nat,k+g=s.size∧i=.int .i64 k∧w=wx∧Aside (Xe s.data.toList=k+Xe (s.data.toList.drop k)))
 case atStart=>exact ⟨0,by omega,rfl,rfl,Aside.intro (by simp)⟩
 case round =>
  obtain ⟨k,hk,rfl,rfl,H⟩:=hrel
  have hks:(k:Int)≤(s.size:Int):=by omega
  have hk0:(0:Int)≤(k:Int):=by omega
  have hD:=Np (s.extract k s.size) w
  rw [Xl] at hD
  have HD:=Hd hD
  clear hD
  cases hb:Jg Iu (s.data.toList.drop k)
  · have hr:=Hd (H.out.trans (by rw [Ycn hb]))
    have hb':=Hd hb
    clear H hb
    go_wp2_with fail
    refine HD.out.mono ?_
    rintro e w1 ⟨rfl,rfl⟩
    rw [hb'.out]
    go_wp2_with fail
    go_ret
    exact ⟨Jy (by rw [hr.out];simp),rfl⟩
  · have hkl:k < s.size:=by
     rcases Nat.lt_or_ge k s.size with h|h
     · exact h
     · rw [Yp s k h] at hb;cases hb
    have hr:Hid (Xe s.data.toList=(k+1:Nat)+Xe (s.data.toList.drop (k+1))):=Hd (by
     rw [Z9 s k hkl] at hb
     rw [H.out,Z9 s k hkl,Qa hb]
     omega)
    have hb':=Hd hb
    clear H hb
    go_wp2_with fail
    refine HD.out.mono ?_
    rintro e w1 ⟨rfl,rfl⟩
    rw [hb'.out]
    go_wp2_with fail
    go_roundg (gk - 1)
    case measure=>omega
    case rel=>exact ⟨k+1,by omega,by go_num,rfl,Aside.intro hr.out⟩
theorem Bb (a:UInt8) (l:List UInt8):pre [a] l=Jg (fun b=>b == a) l:=by
 cases l with
 | nil=>rfl
 | cons b t =>
   unfold pre Jg
   rw [List.isPrefixOf_cons_cons]
   cases h:(b == a)
   · have h1:b ≠ a:=by simpa using h
     have h2:(a == b)=false:=by simpa using fun e=>h1 e.symm
     simp [h1,h2]
   · have:b=a:=by simpa using h
     subst this
     simp
theorem Zyk (s q:ByteArray) (w:World) (b:Bool) (h:pre q.data.toList s.data.toList=b):Calls Tryz.prog 199 #[.string s,.string q] w fun e w'=>e=.returned (.bool b)∧w=w':=
 (Pn s q w).mono fun _ _ ⟨he,hw⟩=>⟨by rw [he,← h];rfl,hw.symm⟩
theorem On {b c:UInt8} (h:(b == c)=true) (n:Int) (hn:(c.toNat:Int)=n):((b.toNat:Int) == n)=true∧((b.toNat:Int) != n)=false:=by
 have:b=c:=by simpa using h
 subst this
 simp [hn]
theorem Ow {b c:UInt8} (h:(b == c)=false) (n:Int) (hn:(c.toNat:Int)=n):((b.toNat:Int) == n)=false∧((b.toNat:Int) != n)=true:=by
 have hne:b ≠ c:=by simpa using h
 have:(b.toNat:Int) ≠ n:=fun e=>hne (UInt8.toNat_inj.1 (by omega))
 simp [this]
theorem Jx (s:ByteArray) (k:Nat) (w:World) (hs:s.size≤1100000):Calls Tryz.prog 226 #[.string (s.extract k s.size)] w fun e w'=>e=.returned (.int .i64 (Xe (s.data.toList.drop k)))∧w=w':=by
 have h:=Zxl (s.extract k s.size) w (by rw [Us];omega)
 rwa [Xl] at h
theorem Tz (s:ByteArray) (w:World) (hs:s.size≤1100000):Calls Tryz.prog 227 #[.string s] w fun e w'=>e=.returned (.int .i64 (Vp s.data.toList))∧w=w':=by
 cases hp:pre [46] s.data.toList
 · have HP:=Hd (Zyk s ⟨#[46]⟩ w false hp)
   have hr:Hid (Vp s.data.toList=0):=Hd (by
     cases hl:s.data.toList with
     | nil=>rfl
     | cons b t =>
       rw [hl] at hp
       have:(b == 46)=false:=by
        cases hb:(b == 46)
        · rfl
        · have:b=46:=by simpa using hb
          subst this
          cases hp
       simp only [Vp,this]
       rfl)
   clear hp
   go_enter Tryz.func227,Tryz.ntmps227
   go_wp2_with fail
   refine HP.out.mono ?_
   rintro e w1 ⟨rfl,rfl⟩
   go_wp2_with fail
   go_ret
   exact ⟨Jy (by rw [hr.out];rfl),rfl⟩
 · have HP:=Hd (Zyk s ⟨#[46]⟩ w true hp)
   have h0:1≤s.size:=by have:=Vk hp;rw [Z6] at this;exact this
   have h0':(1:Int)≤(s.size:Int):=by omega
   have hc:s[0]=46:=by
     rw [Vi s h0] at hp
     unfold pre at hp
     rw [List.isPrefixOf_cons_cons] at hp
     simp at hp
     exact hp.symm
   have hr:Hid (Vp s.data.toList=if Xe (s.data.toList.drop 1)=0 then 0 else 1+Xe (s.data.toList.drop 1)):=Hd (by
     rw [Vi s h0,hc];simp [Vp])
   have hD:=Jx s 1 w hs
   have hrl:=Vn (s.data.toList.drop 1)
   rw [List.length_drop,Z6] at hrl
   obtain ⟨r,hR⟩:∃ r,Xe (s.data.toList.drop 1)=r:=⟨_,rfl⟩
   rw [hR] at hD hrl
   have HD:=Hd hD
   have HR:=Hd hR
   clear hp hc hD hR
   rcases Nat.eq_zero_or_pos r with hz|hz
   · have e0:((r:Int) == 0)=true:=by simp;omega
     have hz':=Hd hz
     clear hz
     go_enter Tryz.func227,Tryz.ntmps227
     go_wp2_with fail
     refine HP.out.mono ?_
     rintro e w1 ⟨rfl,rfl⟩
     go_wp2_with fail
     refine HD.out.mono ?_
     rintro e w1 ⟨rfl,rfl⟩
     go_wp2_with fail
     go_ret
     exact ⟨Jy (by rw [hr.out,HR.out,if_pos hz'.out];rfl),rfl⟩
   · have e0:((r:Int) == 0)=false:=by simp;omega
     have hz':=Hd hz
     clear hz
     go_enter Tryz.func227,Tryz.ntmps227
     go_wp2_with fail
     refine HP.out.mono ?_
     rintro e w1 ⟨rfl,rfl⟩
     go_wp2_with fail
     refine HD.out.mono ?_
     rintro e w1 ⟨rfl,rfl⟩
     go_wp2_with fail
     go_ret
     exact ⟨Jy (by have:=hz'.out;rw [hr.out,HR.out,if_neg (by omega)];omega),rfl⟩
theorem Ye1 (s:ByteArray) (h:0 < s.size):Js s.data.toList=if s[0] == 101 || s[0] == 69 then (if Xe (s.data.toList.drop (1+Xo (s.data.toList.drop 1)))=0 then 0 else 1+Xo (s.data.toList.drop 1)+Xe (s.data.toList.drop (1+Xo (s.data.toList.drop 1)))) else 0:=by
 have e:∀ k,s.data.toList.drop (1+k)=(s.data.toList.drop 1).drop k:=fun k=>by rw [List.drop_drop]
 rw [e]
 conv=>lhs;rw [Vi s h]
 rfl
theorem Rn (s:ByteArray) (w:World) (hs:s.size≤1100000):Calls Tryz.prog 228 #[.string s] w fun e w'=>e=.returned (.int .i64 (Js s.data.toList))∧w=w':=by
 rcases Nat.eq_zero_or_pos s.size with h0|h0
 · have hr:Hid (Js s.data.toList=0):=Hd (by rw [J9 h0];rfl)
   have he:=Eb h0
   go_enter Tryz.func228,Tryz.ntmps228
   go_wp2_with fail
   go_ret
   exact ⟨Jy (by rw [hr.out];rfl),rfl⟩
 have he:=Ge h0
 have HE:=Hd (Ye1 s h0)
 have h0':(0:Int) < (s.size:Int):=by omega
 cases ha:(s[0] == 101)
 · obtain ⟨a1,a2⟩:=Ow ha 101 rfl
   cases hb:(s[0] == 69)
   · obtain ⟨b1,b2⟩:=Ow hb 69 rfl
     have hr:Hid (Js s.data.toList=0):=Hd (by rw [HE.out,ha,hb];rfl)
     clear HE ha hb
     go_enter Tryz.func228,Tryz.ntmps228
     go_wp2_with fail
     go_ret
     exact ⟨Jy (by rw [hr.out];rfl),rfl⟩
   · obtain ⟨b1,b2⟩:=On hb 69 rfl
     have hE:Hid ((s[0] == 101 || s[0] == 69)=true):=Hd (by rw [hb,Bool.or_true])
     clear ha hb
     by_cases h1:1 < s.size
     · have h1':(1:Int) < (s.size:Int):=by omega
       have hcons:=Z9 s 1 h1
       cases hp:(s[1] == 43)
       · obtain ⟨p1,p2⟩:=Ow hp 43 rfl
         cases hm:(s[1] == 45)
         · obtain ⟨m1,m2⟩:=Ow hm 45 rfl
           have hsg:Xo (s.data.toList.drop 1)=0:=by rw [hcons];simp [Xo,hp,hm]
           clear hcons hp hm
           have hr:Hid (Js s.data.toList=if Xe (s.data.toList.drop 1)=0 then 0 else 1+Xe (s.data.toList.drop 1)):=Hd (by rw [HE.out,hsg,if_pos hE.out])
           have hD:=Jx s 1 w hs
           have hrl:=Vn (s.data.toList.drop 1)
           rw [List.length_drop,Z6] at hrl
           obtain ⟨r,hR⟩:∃ r,Xe (s.data.toList.drop 1)=r:=⟨_,rfl⟩
           rw [hR] at hD hrl
           have HD:=Hd hD
           have HR:=Hd hR
           clear hsg HE hE hD hR
           rcases Nat.eq_zero_or_pos r with hz|hz
           · have e0:((r:Int) == 0)=true:=by simp;omega
             have hz':=Hd hz
             clear hz
             go_enter Tryz.func228,Tryz.ntmps228
             go_wp2_with fail
             refine HD.out.mono ?_
             rintro e w1 ⟨rfl,rfl⟩
             go_wp2_with fail
             go_ret
             exact ⟨Jy (by rw [hr.out,HR.out,if_pos hz'.out];rfl),rfl⟩
           · have e0:((r:Int) == 0)=false:=by simp;omega
             have hz':=Hd hz
             clear hz
             go_enter Tryz.func228,Tryz.ntmps228
             go_wp2_with fail
             refine HD.out.mono ?_
             rintro e w1 ⟨rfl,rfl⟩
             go_wp2_with fail
             go_ret
             exact ⟨Jy (by have:=hz'.out;rw [hr.out,HR.out,if_neg (by omega)];omega),rfl⟩
         · obtain ⟨m1,m2⟩:=On hm 45 rfl
           have hsg:Xo (s.data.toList.drop 1)=1:=by rw [hcons];simp [Xo,hp,hm]
           clear hcons hp hm
           have hr:Hid (Js s.data.toList=if Xe (s.data.toList.drop 2)=0 then 0 else 2+Xe (s.data.toList.drop 2)):=Hd (by rw [HE.out,hsg,if_pos hE.out])
           have hD:=Jx s 2 w hs
           have hrl:=Vn (s.data.toList.drop 2)
           rw [List.length_drop,Z6] at hrl
           obtain ⟨r,hR⟩:∃ r,Xe (s.data.toList.drop 2)=r:=⟨_,rfl⟩
           rw [hR] at hD hrl
           have HD:=Hd hD
           have HR:=Hd hR
           clear hsg HE hE hD hR
           rcases Nat.eq_zero_or_pos r with hz|hz
           · have e0:((r:Int) == 0)=true:=by simp;omega
             have hz':=Hd hz
             clear hz
             go_enter Tryz.func228,Tryz.ntmps228
             go_wp2_with fail
             refine HD.out.mono ?_
             rintro e w1 ⟨rfl,rfl⟩
             go_wp2_with fail
             go_ret
             exact ⟨Jy (by rw [hr.out,HR.out,if_pos hz'.out];rfl),rfl⟩
           · have e0:((r:Int) == 0)=false:=by simp;omega
             have hz':=Hd hz
             clear hz
             go_enter Tryz.func228,Tryz.ntmps228
             go_wp2_with fail
             refine HD.out.mono ?_
             rintro e w1 ⟨rfl,rfl⟩
             go_wp2_with fail
             go_ret
             exact ⟨Jy (by have:=hz'.out;rw [hr.out,HR.out,if_neg (by omega)];omega),rfl⟩
       · obtain ⟨p1,p2⟩:=On hp 43 rfl
         have hsg:Xo (s.data.toList.drop 1)=1:=by rw [hcons];simp [Xo,hp]
         clear hcons hp
         have hr:Hid (Js s.data.toList=if Xe (s.data.toList.drop 2)=0 then 0 else 2+Xe (s.data.toList.drop 2)):=Hd (by rw [HE.out,hsg,if_pos hE.out])
         have hD:=Jx s 2 w hs
         have hrl:=Vn (s.data.toList.drop 2)
         rw [List.length_drop,Z6] at hrl
         obtain ⟨r,hR⟩:∃ r,Xe (s.data.toList.drop 2)=r:=⟨_,rfl⟩
         rw [hR] at hD hrl
         have HD:=Hd hD
         have HR:=Hd hR
         clear hsg HE hE hD hR
         rcases Nat.eq_zero_or_pos r with hz|hz
         · have e0:((r:Int) == 0)=true:=by simp;omega
           have hz':=Hd hz
           clear hz
           go_enter Tryz.func228,Tryz.ntmps228
           go_wp2_with fail
           refine HD.out.mono ?_
           rintro e w1 ⟨rfl,rfl⟩
           go_wp2_with fail
           go_ret
           exact ⟨Jy (by rw [hr.out,HR.out,if_pos hz'.out];rfl),rfl⟩
         · have e0:((r:Int) == 0)=false:=by simp;omega
           have hz':=Hd hz
           clear hz
           go_enter Tryz.func228,Tryz.ntmps228
           go_wp2_with fail
           refine HD.out.mono ?_
           rintro e w1 ⟨rfl,rfl⟩
           go_wp2_with fail
           go_ret
           exact ⟨Jy (by have:=hz'.out;rw [hr.out,HR.out,if_neg (by omega)];omega),rfl⟩
     · have h1' : ¬ ((1:Int) < (s.size:Int)):=by omega
       have hsg:Xo (s.data.toList.drop 1)=0:=by rw [Yp s 1 (by omega)];rfl
       have hr:Hid (Js s.data.toList=if Xe (s.data.toList.drop 1)=0 then 0 else 1+Xe (s.data.toList.drop 1)):=Hd (by rw [HE.out,hsg,if_pos hE.out])
       have hD:=Jx s 1 w hs
       have hrl:=Vn (s.data.toList.drop 1)
       rw [List.length_drop,Z6] at hrl
       obtain ⟨r,hR⟩:∃ r,Xe (s.data.toList.drop 1)=r:=⟨_,rfl⟩
       rw [hR] at hD hrl
       have HD:=Hd hD
       have HR:=Hd hR
       clear hsg HE hE hD hR
       rcases Nat.eq_zero_or_pos r with hz|hz
       · have e0:((r:Int) == 0)=true:=by simp;omega
         have hz':=Hd hz
         clear hz
         go_enter Tryz.func228,Tryz.ntmps228
         go_wp2_with fail
         refine HD.out.mono ?_
         rintro e w1 ⟨rfl,rfl⟩
         go_wp2_with fail
         go_ret
         exact ⟨Jy (by rw [hr.out,HR.out,if_pos hz'.out];rfl),rfl⟩
       · have e0:((r:Int) == 0)=false:=by simp;omega
         have hz':=Hd hz
         clear hz
         go_enter Tryz.func228,Tryz.ntmps228
         go_wp2_with fail
         refine HD.out.mono ?_
         rintro e w1 ⟨rfl,rfl⟩
         go_wp2_with fail
         go_ret
         exact ⟨Jy (by have:=hz'.out;rw [hr.out,HR.out,if_neg (by omega)];omega),rfl⟩
 · obtain ⟨a1,a2⟩:=On ha 101 rfl
   have hE:Hid ((s[0] == 101 || s[0] == 69)=true):=Hd (by rw [ha,Bool.true_or])
   clear ha
   by_cases h1:1 < s.size
   · have h1':(1:Int) < (s.size:Int):=by omega
     have hcons:=Z9 s 1 h1
     cases hp:(s[1] == 43)
     · obtain ⟨p1,p2⟩:=Ow hp 43 rfl
       cases hm:(s[1] == 45)
       · obtain ⟨m1,m2⟩:=Ow hm 45 rfl
         have hsg:Xo (s.data.toList.drop 1)=0:=by rw [hcons];simp [Xo,hp,hm]
         clear hcons hp hm
         have hr:Hid (Js s.data.toList=if Xe (s.data.toList.drop 1)=0 then 0 else 1+Xe (s.data.toList.drop 1)):=Hd (by rw [HE.out,hsg,if_pos hE.out])
         have hD:=Jx s 1 w hs
         have hrl:=Vn (s.data.toList.drop 1)
         rw [List.length_drop,Z6] at hrl
         obtain ⟨r,hR⟩:∃ r,Xe (s.data.toList.drop 1)=r:=⟨_,rfl⟩
         rw [hR] at hD hrl
         have HD:=Hd hD
         have HR:=Hd hR
         clear hsg HE hE hD hR
         rcases Nat.eq_zero_or_pos r with hz|hz
         · have e0:((r:Int) == 0)=true:=by simp;omega
           have hz':=Hd hz
           clear hz
           go_enter Tryz.func228,Tryz.ntmps228
           go_wp2_with fail
           refine HD.out.mono ?_
           rintro e w1 ⟨rfl,rfl⟩
           go_wp2_with fail
           go_ret
           exact ⟨Jy (by rw [hr.out,HR.out,if_pos hz'.out];rfl),rfl⟩
         · have e0:((r:Int) == 0)=false:=by simp;omega
           have hz':=Hd hz
           clear hz
           go_enter Tryz.func228,Tryz.ntmps228
           go_wp2_with fail
           refine HD.out.mono ?_
           rintro e w1 ⟨rfl,rfl⟩
           go_wp2_with fail
           go_ret
           exact ⟨Jy (by have:=hz'.out;rw [hr.out,HR.out,if_neg (by omega)];omega),rfl⟩
       · obtain ⟨m1,m2⟩:=On hm 45 rfl
         have hsg:Xo (s.data.toList.drop 1)=1:=by rw [hcons];simp [Xo,hp,hm]
         clear hcons hp hm
         have hr:Hid (Js s.data.toList=if Xe (s.data.toList.drop 2)=0 then 0 else 2+Xe (s.data.toList.drop 2)):=Hd (by rw [HE.out,hsg,if_pos hE.out])
         have hD:=Jx s 2 w hs
         have hrl:=Vn (s.data.toList.drop 2)
         rw [List.length_drop,Z6] at hrl
         obtain ⟨r,hR⟩:∃ r,Xe (s.data.toList.drop 2)=r:=⟨_,rfl⟩
         rw [hR] at hD hrl
         have HD:=Hd hD
         have HR:=Hd hR
         clear hsg HE hE hD hR
         rcases Nat.eq_zero_or_pos r with hz|hz
         · have e0:((r:Int) == 0)=true:=by simp;omega
           have hz':=Hd hz
           clear hz
           go_enter Tryz.func228,Tryz.ntmps228
           go_wp2_with fail
           refine HD.out.mono ?_
           rintro e w1 ⟨rfl,rfl⟩
           go_wp2_with fail
           go_ret
           exact ⟨Jy (by rw [hr.out,HR.out,if_pos hz'.out];rfl),rfl⟩
         · have e0:((r:Int) == 0)=false:=by simp;omega
           have hz':=Hd hz
           clear hz
           go_enter Tryz.func228,Tryz.ntmps228
           go_wp2_with fail
           refine HD.out.mono ?_
           rintro e w1 ⟨rfl,rfl⟩
           go_wp2_with fail
           go_ret
           exact ⟨Jy (by have:=hz'.out;rw [hr.out,HR.out,if_neg (by omega)];omega),rfl⟩
     · obtain ⟨p1,p2⟩:=On hp 43 rfl
       have hsg:Xo (s.data.toList.drop 1)=1:=by rw [hcons];simp [Xo,hp]
       clear hcons hp
       have hr:Hid (Js s.data.toList=if Xe (s.data.toList.drop 2)=0 then 0 else 2+Xe (s.data.toList.drop 2)):=Hd (by rw [HE.out,hsg,if_pos hE.out])
       have hD:=Jx s 2 w hs
       have hrl:=Vn (s.data.toList.drop 2)
       rw [List.length_drop,Z6] at hrl
       obtain ⟨r,hR⟩:∃ r,Xe (s.data.toList.drop 2)=r:=⟨_,rfl⟩
       rw [hR] at hD hrl
       have HD:=Hd hD
       have HR:=Hd hR
       clear hsg HE hE hD hR
       rcases Nat.eq_zero_or_pos r with hz|hz
       · have e0:((r:Int) == 0)=true:=by simp;omega
         have hz':=Hd hz
         clear hz
         go_enter Tryz.func228,Tryz.ntmps228
         go_wp2_with fail
         refine HD.out.mono ?_
         rintro e w1 ⟨rfl,rfl⟩
         go_wp2_with fail
         go_ret
         exact ⟨Jy (by rw [hr.out,HR.out,if_pos hz'.out];rfl),rfl⟩
       · have e0:((r:Int) == 0)=false:=by simp;omega
         have hz':=Hd hz
         clear hz
         go_enter Tryz.func228,Tryz.ntmps228
         go_wp2_with fail
         refine HD.out.mono ?_
         rintro e w1 ⟨rfl,rfl⟩
         go_wp2_with fail
         go_ret
         exact ⟨Jy (by have:=hz'.out;rw [hr.out,HR.out,if_neg (by omega)];omega),rfl⟩
   · have h1' : ¬ ((1:Int) < (s.size:Int)):=by omega
     have hsg:Xo (s.data.toList.drop 1)=0:=by rw [Yp s 1 (by omega)];rfl
     have hr:Hid (Js s.data.toList=if Xe (s.data.toList.drop 1)=0 then 0 else 1+Xe (s.data.toList.drop 1)):=Hd (by rw [HE.out,hsg,if_pos hE.out])
     have hD:=Jx s 1 w hs
     have hrl:=Vn (s.data.toList.drop 1)
     rw [List.length_drop,Z6] at hrl
     obtain ⟨r,hR⟩:∃ r,Xe (s.data.toList.drop 1)=r:=⟨_,rfl⟩
     rw [hR] at hD hrl
     have HD:=Hd hD
     have HR:=Hd hR
     clear hsg HE hE hD hR
     rcases Nat.eq_zero_or_pos r with hz|hz
     · have e0:((r:Int) == 0)=true:=by simp;omega
       have hz':=Hd hz
       clear hz
       go_enter Tryz.func228,Tryz.ntmps228
       go_wp2_with fail
       refine HD.out.mono ?_
       rintro e w1 ⟨rfl,rfl⟩
       go_wp2_with fail
       go_ret
       exact ⟨Jy (by rw [hr.out,HR.out,if_pos hz'.out];rfl),rfl⟩
     · have e0:((r:Int) == 0)=false:=by simp;omega
       have hz':=Hd hz
       clear hz
       go_enter Tryz.func228,Tryz.ntmps228
       go_wp2_with fail
       refine HD.out.mono ?_
       rintro e w1 ⟨rfl,rfl⟩
       go_wp2_with fail
       go_ret
       exact ⟨Jy (by have:=hz'.out;rw [hr.out,HR.out,if_neg (by omega)];omega),rfl⟩
end Go.Proofs.YtpkmbhnikilihaaGreatDoor
