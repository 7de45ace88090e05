/- The walk of letters.Code: what it answers is the plain function 'dec' of the bytes from the place on; below the call's own blocks nothing has turned. -/
import Derived.Test.YtkacnnhdfkpenaaGreatDoorSj5
import Derived.Test.YtkacnnhdfkpenaaGreatDoorSj6
set_option maxRecDepth 100000
set_option maxHeartbeats 2000000
namespace Go.Proofs.YtkacnnhdfkpenaaGreatDoor
open Go.RowKit
def tab:List Int:=[0,128,0,192,224,128,224,240,2048,240,248,65536]
def TabAt (w:World):Prop:=∀ (j:Nat) z,tab[j]? = some z→w.cell? ⟨0,j,none⟩=some (.int .i64 z)
def cells:Array Value:=#[.int .i64 0,.int .i64 128,.int .i64 0,.int .i64 192,.int .i64 224,.int .i64 128,.int .i64 224,.int .i64 240,.int .i64 2048,.int .i64 240,.int .i64 248,.int .i64 65536]
theorem idx0 (w:World):(Instr.index 285 (.agg cells) (.int .i64 0)).run Tryz.prog w=.ok (.agg #[.int .i64 0,.int .i64 128,.int .i64 0]) w:=by kernel_rfl
theorem idx1 (w:World):(Instr.index 285 (.agg cells) (.int .i64 1)).run Tryz.prog w=.ok (.agg #[.int .i64 192,.int .i64 224,.int .i64 128]) w:=by kernel_rfl
theorem idx2 (w:World):(Instr.index 285 (.agg cells) (.int .i64 2)).run Tryz.prog w=.ok (.agg #[.int .i64 224,.int .i64 240,.int .i64 2048]) w:=by kernel_rfl
theorem idx3 (w:World):(Instr.index 285 (.agg cells) (.int .i64 3)).run Tryz.prog w=.ok (.agg #[.int .i64 240,.int .i64 248,.int .i64 65536]) w:=by kernel_rfl
theorem idx {n:Nat} (hn:n < 4) (w:World):(Instr.index 285 (.agg cells) (.int .i64 n)).run Tryz.prog w=.ok (.agg #[.int .i64 (lead n),.int .i64 (mask n),.int .i64 (least n)]) w:=by
 match n,hn with
 | 0,_=>exact idx0 w
 | 1,_=>exact idx1 w
 | 2,_=>exact idx2 w
 | 3,_=>exact idx3 w
theorem bne_no {a b:Int} (h:a=b):(a != b)=false:=by simp [h]
theorem bne_yes {a b:Int} (h : ¬ a=b):(a != b)=true:=by simp [h]
theorem ret_pair {a b c d:Int} {w w':World} {B:Nat} {p:Int × Int} (h:(c,d)=p) (ha:a=c) (hb:b=d) (hw:Below B w w') :
 Ending.returned (.tuple #[.int .i64 a,.int .i64 b])=.returned (.tuple #[.int .i64 p.1,.int .i64 p.2])∧Below B w w':=by subst h ha hb;exact ⟨rfl,hw⟩
theorem code_in (s:ByteArray) (i:Nat) (w:World) (hs:s.size≤1100000) (hi:i < s.size) (ht:TabAt w) :
  Calls Tryz.prog 250 #[.string s,.int .i64 i] w fun e w'=>e=.returned (.tuple #[.int .i64 (dec (s.data.toList.drop i)).1,.int .i64 (dec (s.data.toList.drop i)).2])∧Below w.heap.size w w':=by
 have t0:=ht 0 _ rfl
 have t1:=ht 1 _ rfl
 have t2:=ht 2 _ rfl
 have t3:=ht 3 _ rfl
 have t4:=ht 4 _ rfl
 have t5:=ht 5 _ rfl
 have t6:=ht 6 _ rfl
 have t7:=ht 7 _ rfl
 have t8:=ht 8 _ rfl
 have t9:=ht 9 _ rfl
 have t10:=ht 10 _ rfl
 have t11:=ht 11 _ rfl
 clear ht
 have hlen:Hid ((s.data.toList.drop i).length=s.size - i):=Hd (by rw [List.length_drop,Lib.size_eq])
 have hb0:=byt_lt (s.data.toList.drop i) 0
 have e0:(s[i].toNat:Int)=byt (s.data.toList.drop i) 0:=byt_drop s i 0 hi
 have eb:=byt_drop s i
 generalize hl:s.data.toList.drop i=l at *
 have HL:=Hd hl
 clear hl
 have EB:=Hd eb
 clear eb
 have E0:=Hd e0
 clear e0
 have hb0':=hb0.1
 have hb0'':=hb0.2
 clear hb0
 have g1:(s[i].toNat:Int) < 256:=by rw [E0.out];exact hb0''
 have d1:decide (s.size≤i)=false:=by simpa using hi
 have d2:decide ((i:Int) < 0)=false:=by simp
 go_enter Tryz.func250,Tryz.ntmps250
 go_wp2
 go_step3
 go_wp2
 go_step3
 go_wp2
 clear t0 t1 t2 t3 t4 t5 t6 t7 t8 t9 t10 t11
 go_loopg [21] 4 (fun g k wx=>∃ n:Nat,n+g=4∧k=.int .i64 n∧Below w.heap.size w wx∧Aside (noneTo l n))
 case atStart=>exact ⟨0,by omega,rfl,Below.refl _ _,Aside.intro (fun j hj=>by omega)⟩
 case round =>
  obtain ⟨n,hn,rfl,hb,HN⟩:=hrel
  have e0:=E0.out
  cases gk with
  | zero =>
    obtain rfl:n=4:=by omega
    have hd:=Hd (dec_none HN.out)
    clear HN e0
    go_wp2
    try rw [Exit.noGoto_ret]
    go_ret2
    exact ret_pair hd.out.symm rfl rfl hb
  | succ g =>
    have hn4:n < 4:=by omega
    have hn4':(n:Int) < 4:=by omega
    have ix:=idx hn4
    unfold cells at ix
    have hm:=and_mask hn4 hb0' hb0''
    have hb2:=fun (o:Obj)=>hb.alloc hb.size o
    by_cases hL:leads n (byt l 0)
    · have m1 := bne_no (hm.1.2 hL)
      have m2:=hm.2 hL
      clear hm
      by_cases hk:n < s.size - i
      · have hk' : (n:Int) < (s.size:Int) - (i:Int):=by omega
        have d3:decide ((s.size:Int) - (i:Int)≤(n:Int))=false:=by simp;omega
        have hb3:=Hd hb2
        clear hb2
        go_wp2
        clear ix m1 m2 e0
        go_loopg [9,10] n (fun g2 c k wy=>∃ j:Nat,1≤j∧j+g2=n+1∧k=.int .i64 j∧c=.int .i64 (acc l (byt l 0 - lead n) j)∧Aside (contTo l j=true) ∧
         wr.alloc (.cells #[.int .i64 (lead n),.int .i64 (mask n),.int .i64 (least n)] 284)=wy)
        case atStart=>exact ⟨1,by omega,by omega,rfl,rfl,Aside.intro rfl,rfl⟩
        case round =>
         obtain ⟨j,hj1,hjg,rfl,rfl,HC,rfl⟩:=hrel
         have hls:=Hd (leads_bd hL)
         have hsm:=acc_small (l:=l) hls.out.1 hls.out.2 (by omega) HC.out
         have hsm1:=hsm.1
         have hsm2:=hsm.2
         clear hsm
         cases gk with
         | zero =>
           obtain rfl:j=n+1:=by omega
           have hy:=fun h=>Hd (dec_some hn4 HN.out (decK_yes (by rw [hlen.out];exact hk) hL HC.out h))
           have hnf:=fun h=>Hd (noneTo_succ HN.out (decK_fair (l:=l) (k:=n) h))
           unfold fair at hy hnf
           generalize acc l (byt l 0 - lead n) (n+1)=C at *
           clear HC HN
           by_cases f1:least n≤C
           · by_cases f2:C≤1114111
             · cases f3:halfB C
               · have hy2:=hy ⟨f1,f2,f3⟩
                 clear hy hnf
                 go_wp2_with (go_at_call 290;refine (half_any _ _).mono ?_;rintro e w' ⟨rfl,rfl⟩)
                 try rw [Exit.noGoto_ret]
                 go_ret2
                 exact ret_pair hy2.out.symm rfl rfl (hb3.out _)
               · have hn2:=hnf (by rintro ⟨_,_,h⟩;rw [f3] at h;cases h)
                 clear hy hnf
                 go_wp2_with (go_at_call 290;refine (half_any _ _).mono ?_;rintro e w' ⟨rfl,rfl⟩)
                 go_roundg g
                 case measure=>omega
                 case rel=>exact ⟨n+1,by omega,by go_num,hb3.out _,Aside.intro hn2.out⟩
             · have hn2:=hnf (by rintro ⟨_,h,_⟩;exact f2 h)
               clear hy hnf
               go_wp2_with (go_at_call 290;refine (half_any _ _).mono ?_;rintro e w' ⟨rfl,rfl⟩)
               go_roundg g
               case measure=>omega
               case rel=>exact ⟨n+1,by omega,by go_num,hb3.out _,Aside.intro hn2.out⟩
           · have hn2:=hnf (by rintro ⟨h,_,_⟩;exact f1 h)
             clear hy hnf
             go_wp2_with (go_at_call 290;refine (half_any _ _).mono ?_;rintro e w' ⟨rfl,rfl⟩)
             go_roundg g
             case measure=>omega
             case rel=>exact ⟨n+1,by omega,by go_num,hb3.out _,Aside.intro hn2.out⟩
         | succ g2 =>
           have hjn:(j:Int)≤(n:Int):=by omega
           have hij:i+j < s.size:=by omega
           have ej:=EB.out j hij
           have hbj:=byt_lt l j
           have hbj1:=hbj.1
           have hbj2:=hbj.2
           clear hbj
           have htl:=and_tail hbj1 hbj2
           by_cases hc:contB (byt l j)=true
           · have m1:=bne_no (htl.1.2 hc)
             have m2:=htl.2 hc
             have hcc:128≤byt l j∧byt l j≤191:=by simpa [contB] using hc
             have m3:=or_six (c:=acc l (byt l 0 - lead n) j) (d:=byt l j - 128) (by omega) (by omega) (by omega) (by omega)
             have hx:=Hd hcc
             have hs1:=Hd (acc_succ (l:=l) (c:=byt l 0 - lead n) hj1)
             have hs2:=Hd (contTo_succ hj1 HC.out hc)
             clear htl hc hcc HC
             go_wp2
             go_roundg g2
             case measure=>omega
             case rel=>exact ⟨j+1,by omega,by omega,by go_num,by rw [hs1.out],Aside.intro hs2.out,rfl⟩
           · have m1:=bne_yes (fun h=>hc (htl.1.1 h))
             have hn2:=Hd (noneTo_succ HN.out (decK_cont (k:=n) hj1 (by omega) hc))
             clear htl hc HC HN
             go_wp2
             go_roundg g
             case measure=>omega
             case rel=>exact ⟨n+1,by omega,by go_num,hb3.out _,Aside.intro hn2.out⟩
      · have hk' : ¬ ((n:Int) < (s.size:Int) - (i:Int)):=by omega
        have hn2:=Hd (noneTo_succ HN.out (decK_short (l:=l) (k:=n) (by rw [hlen.out];exact hk)))
        have hb3:=Hd hb2
        clear HN hb2
        go_wp2
        go_roundg g
        case measure=>omega
        case rel=>exact ⟨n+1,by omega,by go_num,hb3.out _,Aside.intro hn2.out⟩
    · have m1:=bne_yes (fun h=>hL (hm.1.1 h))
      have hn2:=Hd (noneTo_succ HN.out (decK_leads hL))
      have hb3:=Hd hb2
      clear hm HN hb2
      go_wp2
      go_roundg g
      case measure=>omega
      case rel=>exact ⟨n+1,by omega,by go_num,hb3.out _,Aside.intro hn2.out⟩
theorem TabAt.lt {w:World} (h:TabAt w):0 < w.heap.size:=by
 rcases Nat.lt_or_ge 0 w.heap.size with h'|h'
 · exact h'
 · have:=h 0 0 rfl
   simp [World.cell?,Array.getElem?_eq_none h'] at this
theorem TabAt.below {w w':World} {B:Nat} (h:TabAt w) (hb:Below B w w') (hB:0 < B):TabAt w':=fun j z hz=>(hb.cell (p:=⟨0,j,none⟩) hB).trans (h j z hz)
theorem each_pure (fn:Nat) (p:Int→Bool) (he:∀ args w,(callFunc fn args).run Tryz.prog w=.ok (.enter fn args) w) (hp:∀ (c:Int) (w:World),Calls Tryz.prog fn #[.int .i64 c] w fun e w'=>e=.returned (.bool (p c))∧w=w') (s:ByteArray) (w:World) (hs:s.size≤1100000) (ht:TabAt w) :
  Calls Tryz.prog 174 #[.string s,.func (.func fn) #[] #[]] w fun e w'=>e=.returned (.bool (eachP p s.data.toList))∧Below w.heap.size w w':=by
 have HP:=Hd hp
 have HT:=Hd ht
 clear hp ht
 have hlen:s.data.toList.length=s.size:=Array.length_toList
 have HL:=Hd hlen
 clear hlen
 go_enter Tryz.func174,Tryz.ntmps174
 go_wp2
 go_loopg [5] s.size (fun g i wx=>∃ k:Nat,k+g=s.size∧i=.int .i64 k∧Below w.heap.size w wx∧Aside (eachP p (s.data.toList.drop k)=eachP p s.data.toList))
 case atStart=>exact ⟨0,by omega,rfl,Below.refl _ _,Aside.intro rfl⟩
 case round =>
  obtain ⟨k,hk,rfl,hb,H⟩:=hrel
  cases gk with
  | zero =>
    obtain rfl:k=s.size:=by omega
    have h2:Hid (eachP p s.data.toList=true):=Hd (by rw [← H.out,List.drop_eq_nil_of_le (by rw [HL.out];omega)];rfl)
    clear H
    go_wp2
    go_ret
    exact ⟨ret_bool h2.out.symm,hb⟩
  | succ g =>
    have hlt:k < s.size:=by omega
    have hlt':(k:Int) < (s.size:Int):=by omega
    have hne:Hid (s.data.toList.drop k ≠ []):=Hd (fun e=>by have:=congrArg List.length e;rw [List.length_drop,HL.out] at this;simp at this;omega)
    have hdl:Hid ((s.data.toList.drop k).length=s.size - k):=Hd (by rw [List.length_drop,HL.out])
    have hbd:=dec_bd (s.data.toList.drop k)
    have hcode:=code_in s k wr hs hlt (HT.out.below hb HT.out.lt)
    have hst:=Hd (eachP_step (p:=p) (l:=s.data.toList.drop k) hne.out)
    have hbad:=Hd (eachP_bad (p:=p) (l:=s.data.toList.drop k) hne.out)
    generalize dec (s.data.toList.drop k)=d at *
    obtain ⟨c,n⟩:=d
    simp only at hbd hcode hst hbad
    obtain ⟨b1,b2,b3,b4,b5,b6⟩:=hbd
    rw [hdl.out] at b3
    have HC:=Hd hcode
    clear hcode b6
    by_cases hn:n=0
    · have hfin:Hid (eachP p s.data.toList=false):=Hd (by rw [← H.out];exact hbad.out hn)
      have z0:(n == 0)=true:=by simp [hn]
      clear H hst hbad hn
      go_wp2_with fail
      refine HC.out.mono ?_
      rintro e w1 ⟨rfl,hb1⟩
      go_wp2_with fail
      go_ret
      exact ⟨ret_bool hfin.out.symm,hb.trans (hb1.mono hb.size)⟩
    · have z0:(n == 0)=false:=by simp [hn]
      cases hpc:p c
      · have hfin:Hid (eachP p s.data.toList=false):=Hd (by rw [← H.out,hst.out hn,hpc];rfl)
        have hpc':=Hd hpc
        clear H hst hbad hn hpc
        go_wp2_with fail
        refine HC.out.mono ?_
        rintro e w1 ⟨rfl,hb1⟩
        go_wp2_with fail
        refine (HP.out _ _).mono ?_
        rintro e w2 ⟨rfl,rfl⟩
        rw [hpc'.out]
        go_wp2_with fail
        go_ret
        exact ⟨ret_bool hfin.out.symm,hb.trans (hb1.mono hb.size)⟩
      · have hfin:Hid (eachP p ((s.data.toList.drop k).drop n.toNat)=eachP p s.data.toList):=Hd (by rw [← H.out,hst.out hn,hpc];rfl)
        have hpc':=Hd hpc
        have hn1:1≤n:=by omega
        clear H hst hbad hn hpc
        go_wp2_with fail
        refine HC.out.mono ?_
        rintro e w1 ⟨rfl,hb1⟩
        go_wp2_with fail
        refine (HP.out _ _).mono ?_
        rintro e w2 ⟨rfl,rfl⟩
        rw [hpc'.out]
        go_wp2_with fail
        obtain ⟨m,rfl⟩:=Int.eq_ofNat_of_zero_le b1
        go_roundg (s.size - (k+m))
        case measure=>omega
        case rel=>exact ⟨k+m,by omega,by go_num,hb.trans (hb1.mono hb.size),Aside.intro (by rw [← hfin.out,List.drop_drop];rfl)⟩
theorem goodFn (c:Int) (w:World):Calls Tryz.prog 217 #[.int .i64 c] w fun e w'=>e=.returned (.bool ((fun _=>true) c))∧w=w':=by
 go_enter Tryz.func217,Tryz.ntmps217
 go_wp2
 go_ret
 exact ⟨rfl,rfl⟩
theorem sourceFn (c:Int) (w:World):Calls Tryz.prog 175 #[.int .i64 c] w fun e w'=>e=.returned (.bool (srcB c))∧w=w':=by
 go_enter Tryz.func175,Tryz.ntmps175
 go_wp2
 all_goals go_ret
 all_goals (refine ret_boolw ?_;simp [srcB];try omega)
theorem good_any (s:ByteArray) (w:World) (hs:s.size≤1100000) (ht:TabAt w):Calls Tryz.prog 140 #[.string s] w fun e w'=>e=.returned (.bool (goodB s.data.toList))∧Below w.heap.size w w':=by
 have H:=Hd (each_pure 217 (fun _=>true) (Go.Proofs.enters_of Tryz.func217 (by kernel_rfl) rfl) goodFn s w hs ht)
 go_enter Tryz.func140,Tryz.ntmps140
 go_wp2_with fail
 refine H.out.mono ?_
 rintro e w' ⟨rfl,hb⟩
 go_wp2_with fail
 go_ret
 exact ⟨rfl,hb⟩
theorem source_any (s:ByteArray) (w:World) (hs:s.size≤1100000) (ht:TabAt w):Calls Tryz.prog 100 #[.string s] w fun e w'=>e=.returned (.bool (sourceB s.data.toList))∧Below w.heap.size w w':=by
 have H:=Hd (each_pure 175 srcB (Go.Proofs.enters_of Tryz.func175 (by kernel_rfl) rfl) sourceFn s w hs ht)
 go_enter Tryz.func100,Tryz.ntmps100
 go_wp2_with fail
 refine H.out.mono ?_
 rintro e w' ⟨rfl,hb⟩
 go_wp2_with fail
 go_ret
 exact ⟨rfl,hb⟩
def IntsAt (w:World) (B:Nat) (A:Option Addr) (n:Nat) (zs:List Int):Prop:=
 zs.length=n∧∀ (j:Nat) z,zs[j]? = some z→∃ b o,A=some ⟨b,o,none⟩∧b < B∧w.cell? ⟨b,o+j,none⟩=some (.int .i64 z)
theorem IntsAt.below {w w':World} {B:Nat} {A:Option Addr} {n:Nat} {zs:List Int} (h:IntsAt w B A n zs) (hb:Below B w w'):IntsAt w' B A n zs:=
 ⟨h.1,fun j z hz=>by
  obtain ⟨b,o,e,hlt,hc⟩:=h.2 j z hz
  exact ⟨b,o,e,hlt,(hb.cell (p:=⟨b,o+j,none⟩) hlt).trans hc⟩⟩
def joinS (zs:List Int):ByteArray:=match joinL zs with|some l=>⟨l.toArray⟩|none=>⟨#[]⟩
def joinOk (zs:List Int):Bool:=(joinL zs).isSome
theorem join_ret {zs:List Int} {s:ByteArray} {b:Bool} {B:Nat} {w w':World} (h1:joinS zs=s) (h2:joinOk zs=b) (hw:Below B w w') :
 Ending.returned (.tuple #[.string s,.bool b])=.returned (.tuple #[.string (joinS zs),.bool (joinOk zs)])∧Below B w w':=by subst h1 h2;exact ⟨rfl,hw⟩
def JoinTo (zs:List Int) (k:Nat) (done:List UInt8):Prop:=(pairUp (zs.drop k)).map (fun cs=>done++bytesOf cs)=joinL zs
theorem drop_cons {zs:List Int} {k:Nat} {z:Int} (h:zs[k]? = some z):zs.drop k=z :: zs.drop (k+1):=by
 obtain ⟨hlt,rfl⟩:=List.getElem?_eq_some_iff.1 h
 exact List.drop_eq_getElem_cons hlt
theorem JoinTo.one {zs:List Int} {k:Nat} {done:List UInt8} {z:Int} (h:JoinTo zs k done) (hz:zs[k]? = some z) (h0 : ¬ z < 0) (h1 : ¬ 65536≤z) (h2:halfB z=false):JoinTo zs (k+1) (done++Lib.encodeRune z):=by
 unfold JoinTo at *
 rw [drop_cons hz,pairUp_one h0 h1 h2,Option.map_map] at h
 rw [← h]
 congr 1
 funext cs
 simp [bytesOf,List.append_assoc]
theorem JoinTo.two {zs:List Int} {k:Nat} {done:List UInt8} {z y:Int} (h:JoinTo zs k done) (hz:zs[k]? = some z) (hy:zs[k+1]? = some y) (h0 : ¬ z < 0) (h1 : ¬ 65536≤z) (h2:halfB z=true) (h3:pairB z y=true) :
  JoinTo zs (k+2) (done++Lib.encodeRune (65536+1024*(z - 55296)+y - 56320)):=by
 unfold JoinTo at *
 rw [drop_cons hz,drop_cons hy,pairUp_two h0 h1 h2 h3,Option.map_map] at h
 rw [← h]
 congr 1
 funext cs
 simp [bytesOf,List.append_assoc]
theorem JoinTo.no {zs:List Int} {k:Nat} {done:List UInt8} (h:JoinTo zs k done) (hn:pairUp (zs.drop k)=none):joinS zs=⟨#[]⟩∧joinOk zs=false:=by
 unfold JoinTo at h
 rw [hn] at h
 simp [joinS,joinOk,← h]
theorem JoinTo.done {zs:List Int} {k:Nat} {done:List UInt8} (h:JoinTo zs k done) (hk:zs.length≤k):joinS zs=⟨done.toArray⟩∧joinOk zs=true:=by
 unfold JoinTo at h
 rw [List.drop_eq_nil_of_le hk] at h
 simp [pairUp,bytesOf] at h
 simp [joinS,joinOk,← h]
theorem encode_len (c:Int):(Lib.encodeRune c).length≤4:=by
 have:=(Lib.encodeRuneZ_length c).2
 simpa [Lib.encodeRune] using this
theorem join_any (A:Option Addr) (n cap:Nat) (zs:List Int) (w:World) (hn:n≤1100000) (hz:IntsAt w w.heap.size A n zs) :
  Calls Tryz.prog 297 #[.slice A n cap] w fun e w'=>e=.returned (.tuple #[.string (joinS zs),.bool (joinOk zs)])∧Below w.heap.size w w':=by
 have HZ:=Hd hz
 clear hz
 go_enter Tryz.func297,Tryz.ntmps297
 go_wp2
 go_loopg [5] n (fun g i wx=>∃ k:Nat,k+g=n∧i=.int .i64 k∧Below w.heap.size w wx∧Aside (∃ done:List UInt8,done.length≤4*k∧Lib.IsBuilderF 118 5 w.heap.size w.heap.size (Lib.byteCells done) wx∧JoinTo zs k done))
 case atStart=>exact ⟨0,by omega,rfl,(Below.refl _ _).alloc (Nat.le_refl _) _,Aside.intro ⟨[],by simp,Lib.IsBuilderF.of (Lib.fresh_isBuilder _ _ _),by unfold JoinTo joinL;rw [List.drop_zero];rfl⟩⟩
 case round =>
  obtain ⟨k,hk,rfl,hb,H⟩:=hrel
  cases gk with
  | zero =>
    obtain rfl:k=n:=by omega
    obtain ⟨done,hd,hB,hJ⟩:=H.out
    have hfin:=Hd (hJ.done (by rw [HZ.out.1];omega))
    have HC:=Hd (builderText w.heap.size w.heap.size done wr hB hb.size)
    clear H hB hJ
    go_wp2_with fail
    refine HC.out.mono ?_
    rintro e w1 ⟨rfl,_,hb1,_⟩
    go_wp2_with fail
    go_ret2
    exact join_ret hfin.out.1 hfin.out.2 (hb.trans hb1)
  | succ g =>
    have hkn:k < n:=by omega
    have hkn':(k:Int) < (n:Int):=by omega
    obtain ⟨z,hzk⟩:∃ z,zs[k]? = some z:=⟨_,List.getElem?_eq_getElem (by rw [HZ.out.1];omega)⟩
    obtain ⟨b,o,rfl,hblt,hcell⟩:=(HZ.out.below hb).2 k z hzk
    have HK:=Hd hzk
    clear hzk
    by_cases h0:z < 0
    · obtain ⟨done,hd,hB,hJ⟩:=H.out
      have hfin:=Hd (hJ.no (by rw [drop_cons HK.out];exact pairUp_range (.inl h0)))
      clear H hB hJ hd
      go_wp2_with fail
      go_ret2
      exact join_ret hfin.out.1 hfin.out.2 hb
    by_cases h1:65536≤z
    · obtain ⟨done,hd,hB,hJ⟩:=H.out
      have hfin:=Hd (hJ.no (by rw [drop_cons HK.out];exact pairUp_range (.inr h1)))
      clear H hB hJ hd
      go_wp2_with fail
      go_ret2
      exact join_ret hfin.out.1 hfin.out.2 hb
    cases hh:halfB z
    · obtain ⟨done,hd,hB,hJ⟩:=H.out
      have hJ':=Hd (hJ.one HK.out h0 h1 hh)
      have HW:=Hd (writeRune w.heap.size w.heap.size (Lib.byteCells done) z (by omega) (by omega) wr hB (by rw [Lib.byteCells_length];omega) hb.size)
      have Hh:=Hd (half_any z wr)
      have hh':=Hd hh
      clear H hB hJ hh
      go_wp2_with fail
      refine Hh.out.mono ?_
      rintro e w1 ⟨rfl,rfl⟩
      rw [hh'.out]
      go_wp2_with fail
      refine HW.out.mono ?_
      rintro e w2 ⟨rfl,hB2,hb2,_⟩
      rw [← Lib.byteCells_encodeRune,← Lib.byteCells_append] at hB2
      go_wp2_with fail
      go_roundg g
      case measure=>omega
      case rel=>exact ⟨k+1,by omega,by go_num,hb.trans hb2,Aside.intro ⟨_,by rw [List.length_append];have:=encode_len z;omega,.inr hB2,hJ'.out⟩⟩
    · have Hh:=Hd (half_any z wr)
      have hh':=Hd hh
      clear hh
      by_cases hlast:k+1=n
      · obtain ⟨done,hd,hB,hJ⟩:=H.out
        have hfin:=Hd (hJ.no (by rw [drop_cons HK.out,List.drop_eq_nil_of_le (by rw [HZ.out.1];omega)];exact pairUp_end hh'.out))
        have e1:((k:Int)+1 == (n:Int))=true:=by simp;omega
        clear H hB hJ hd hlast
        go_wp2_with fail
        refine Hh.out.mono ?_
        rintro e w1 ⟨rfl,rfl⟩
        rw [hh'.out]
        go_wp2_with fail
        go_ret2
        exact join_ret hfin.out.1 hfin.out.2 hb
      · have e1:((k:Int)+1 == (n:Int))=false:=by simp;omega
        have hk1:k+1 < n:=by omega
        have hk1':(k:Int)+1 < (n:Int):=by omega
        clear hlast
        obtain ⟨y,hyk⟩:∃ y,zs[k+1]? = some y:=⟨_,List.getElem?_eq_getElem (by rw [HZ.out.1];omega)⟩
        obtain ⟨b',o',e',hblt',hcell'⟩:=(HZ.out.below hb).2 (k+1) y hyk
        obtain ⟨rfl,rfl⟩:b=b'∧o=o':=by injection e' with e';injection e' with e1 e2;exact ⟨e1,e2⟩
        clear e'
        have HK2:=Hd hyk
        clear hyk
        have Hp:=Hd (pair_any z y wr)
        cases hp:pairB z y
        · obtain ⟨done,hd,hB,hJ⟩:=H.out
          have hfin:=Hd (hJ.no (by rw [drop_cons HK.out,drop_cons HK2.out];exact pairUp_odd hh'.out hp))
          have hp':=Hd hp
          clear H hB hJ hd hp
          go_wp2_with fail
          refine Hh.out.mono ?_
          rintro e w1 ⟨rfl,rfl⟩
          rw [hh'.out]
          go_wp2_with fail
          refine Hp.out.mono ?_
          rintro e w1 ⟨rfl,rfl⟩
          rw [hp'.out]
          go_wp2_with fail
          go_ret2
          exact join_ret hfin.out.1 hfin.out.2 hb
        · obtain ⟨done,hd,hB,hJ⟩:=H.out
          have hp':=Hd hp
          have hpp:55296≤z∧z < 56320∧56320≤y∧y≤57343:=by simpa [pairB] using hp
          obtain ⟨p1,p2,p3,p4⟩:=hpp
          have hJ':=Hd (hJ.two HK.out HK2.out h0 h1 hh'.out hp)
          have HW:=Hd (writeRune w.heap.size w.heap.size (Lib.byteCells done) (65536+1024*(z - 55296)+y - 56320) (by omega) (by omega) wr hB (by rw [Lib.byteCells_length];omega) hb.size)
          clear H hB hJ hp
          go_wp2_with fail
          refine Hh.out.mono ?_
          rintro e w1 ⟨rfl,rfl⟩
          rw [hh'.out]
          go_wp2_with fail
          refine Hp.out.mono ?_
          rintro e w1 ⟨rfl,rfl⟩
          rw [hp'.out]
          go_wp2_with fail
          refine HW.out.mono ?_
          rintro e w2 ⟨rfl,hB2,hb2,_⟩
          rw [← Lib.byteCells_encodeRune,← Lib.byteCells_append] at hB2
          go_wp2_with fail
          go_roundg (n - (k+2))
          case measure=>omega
          case rel=>exact ⟨k+2,by omega,by go_num,hb.trans hb2,Aside.intro ⟨_,by rw [List.length_append];have:=encode_len (65536+1024*(z - 55296)+y - 56320);omega,.inr hB2,hJ'.out⟩⟩
theorem len_data (s:ByteArray):s.data.toList.length=s.size:=Array.length_toList
theorem ext_size (s:ByteArray) (k:Nat):(s.extract k s.size).size=s.size - k:=by simp
theorem ext_data (s:ByteArray) (k:Nat):(s.extract k s.size).data.toList=s.data.toList.drop k:=by
 simp [ByteArray.data_extract,Array.toList_extract,List.extract]
 rw [← len_data s]
 simp
 exact List.take_of_length_le (by simp)
theorem ext_take (s:ByteArray) (n:Nat):(s.extract 0 n).data.toList=s.data.toList.take n:=by
 simp [ByteArray.data_extract,Array.toList_extract,List.extract]
theorem drop_at (s:ByteArray) (k:Nat) (h:k < s.size):s.data.toList.drop k=s[k] :: s.data.toList.drop (k+1):=by
 have hl:k < s.data.toList.length:=by rw [len_data];exact h
 rw [List.drop_eq_getElem_cons hl]
 rfl
theorem cons_at (s:ByteArray) (h:0 < s.size):s.data.toList=s[0] :: s.data.toList.drop 1:=by
 have:=drop_at s 0 h
 rwa [List.drop_zero] at this
theorem drop_all (s:ByteArray) (k:Nat) (h:s.size≤k):s.data.toList.drop k=[]:=List.drop_eq_nil_of_le (by rw [len_data];exact h)
theorem nil_of_size {s:ByteArray} (h:s.size=0):s.data.toList=[]:=List.eq_nil_of_length_eq_zero (by rw [len_data];exact h)
theorem empty_yes {s:ByteArray} (h:s.size=0):s.toList.isEmpty=true:=by
 rw [Lib.toList_data,nil_of_size h];rfl
theorem empty_no {s:ByteArray} (h:0 < s.size):s.toList.isEmpty=false:=by
 rw [Lib.toList_data,cons_at s h];rfl
theorem size_mk (l:List UInt8):(⟨l.toArray⟩:ByteArray).size=l.length:=by
 show l.toArray.size=_
 simp
theorem mk_of {s:ByteArray} {l:List UInt8} (h:s.data.toList=l):(⟨l.toArray⟩:ByteArray)=s:=by subst h;simp
def headB (p:UInt8→Bool):List UInt8→Bool
 | []=>false
 | b :: _=>p b
theorem ret_b {a b:Bool} {w:World} (h:a=b):Ending.returned (.bool a)=.returned (.bool b)∧w=w:=⟨by rw [h],rfl⟩
theorem ret_i {a b:Int} (h:a=b):Ending.returned (.int .i64 a)=.returned (.int .i64 b):=by rw [h]
theorem digU_and (b:UInt8):digU b=(decide ((48:Int)≤(b.toNat:Int)) && decide ((b.toNat:Int)≤(57:Int))):=by unfold digU digB;rw [Bool.decide_and]
theorem tdigit_any (s:ByteArray) (w:World):Calls Tryz.prog 179 #[.string s] w fun e w'=>e=.returned (.bool (headB digU s.data.toList))∧w=w':=by
 rcases Nat.eq_zero_or_pos s.size with h0|h0
 · have hr:headB digU s.data.toList=false:=by rw [nil_of_size h0];rfl
   have he:=empty_yes h0
   rw [hr]
   clear hr
   go_enter Tryz.func179,Tryz.ntmps179
   go_wp2
   go_ret
   exact ⟨rfl,rfl⟩
 · have hr:headB digU s.data.toList=digU s[0]:=by rw [cons_at s h0];rfl
   have he:=empty_no h0
   rw [hr]
   have HD:Hid (digU s[0]=(decide ((48:Int)≤(s[0].toNat:Int)) && decide ((s[0].toNat:Int)≤(57:Int)))):=Hd (digU_and _)
   clear hr
   by_cases c1:(48:Int)≤(s[0].toNat:Int)
   · by_cases c2:(s[0].toNat:Int)≤(57:Int)
     · go_enter Tryz.func179,Tryz.ntmps179
       go_wp2
       go_ret
       exact ret_b (by rw [HD.out];simp [c1,c2])
     · go_enter Tryz.func179,Tryz.ntmps179
       go_wp2
       go_ret
       exact ret_b (by rw [HD.out];simp [c1,c2])
   · go_enter Tryz.func179,Tryz.ntmps179
     go_wp2
     go_ret
     exact ret_b (by rw [HD.out];simp;omega)
theorem tletter_any (s:ByteArray) (w:World):Calls Tryz.prog 178 #[.string s] w fun e w'=>e=.returned (.bool (headB letU s.data.toList))∧w=w':=by
 rcases Nat.eq_zero_or_pos s.size with h0|h0
 · have hr:headB letU s.data.toList=false:=by rw [nil_of_size h0];rfl
   have he:=empty_yes h0
   rw [hr]
   clear hr
   go_enter Tryz.func178,Tryz.ntmps178
   go_wp2
   go_ret
   exact ⟨rfl,rfl⟩
 · have hr:nameB (s.extract 0 1).data.toList=headB letU s.data.toList:=by rw [ext_take,cons_at s h0];simp [headB,nameB,tailB,letU]
   have he:=empty_no h0
   have h1:1≤s.size:=h0
   have hN:=name_any (s.extract 0 1) w (by simp;omega)
   rw [hr] at hN
   have HN:=Hd hN
   clear hr hN
   go_enter Tryz.func178,Tryz.ntmps178
   go_wp2_with fail
   refine HN.out.mono ?_
   rintro e w1 ⟨rfl,rfl⟩
   go_wp2_with fail
   go_ret
   exact ⟨rfl,rfl⟩
theorem runL_no {l:List UInt8} (h:headB digU l=false):runL l=0:=by
 cases l with
 | nil=>rfl
 | cons b t=>unfold runL;rw [List.takeWhile_cons];have:digU b=false:=h;simp [this]
theorem runL_yes {b:UInt8} {t:List UInt8} (h:digU b=true):runL (b :: t)=1+runL t:=by
 unfold runL;rw [List.takeWhile_cons];simp [h];omega
theorem digits_any (s:ByteArray) (w:World) (hs:s.size≤1100000):Calls Tryz.prog 181 #[.string s] w fun e w'=>e=.returned (.int .i64 (runL s.data.toList))∧w=w':=by
 go_enter Tryz.func181,Tryz.ntmps181
 go_wp2
 go_loopg [3] s.size (fun g i wx=>∃ k:Nat,k+g=s.size∧i=.int .i64 k∧w=wx∧Aside (runL s.data.toList=k+runL (s.data.toList.drop k)))
 case atStart=>exact ⟨0,by omega,rfl,rfl,Aside.intro (by simp)⟩
 case round =>
  obtain ⟨k,hk,rfl,rfl,H⟩:=hrel
  have hks:(k:Int)≤(s.size:Int):=by omega
  have hk0:(0:Int)≤(k:Int):=by omega
  have hD:=tdigit_any (s.extract k s.size) w
  rw [ext_data] at hD
  have HD:=Hd hD
  clear hD
  cases hb:headB digU (s.data.toList.drop k)
  · have hr:=Hd (H.out.trans (by rw [runL_no hb]))
    have hb':=Hd hb
    clear H hb
    go_wp2_with fail
    refine HD.out.mono ?_
    rintro e w1 ⟨rfl,rfl⟩
    rw [hb'.out]
    go_wp2_with fail
    go_ret
    exact ⟨ret_i (by rw [hr.out];simp),rfl⟩
  · have hkl:k < s.size:=by
     rcases Nat.lt_or_ge k s.size with h|h
     · exact h
     · rw [drop_all s k h] at hb;cases hb
    have hr:Hid (runL s.data.toList=(k+1:Nat)+runL (s.data.toList.drop (k+1))):=Hd (by
     rw [drop_at s k hkl] at hb
     rw [H.out,drop_at s k hkl,runL_yes hb]
     omega)
    have hb':=Hd hb
    clear H hb
    go_wp2_with fail
    refine HD.out.mono ?_
    rintro e w1 ⟨rfl,rfl⟩
    rw [hb'.out]
    go_wp2_with fail
    go_roundg (gk - 1)
    case measure=>omega
    case rel=>exact ⟨k+1,by omega,by go_num,rfl,Aside.intro hr.out⟩
end Go.Proofs.YtkacnnhdfkpenaaGreatDoor
