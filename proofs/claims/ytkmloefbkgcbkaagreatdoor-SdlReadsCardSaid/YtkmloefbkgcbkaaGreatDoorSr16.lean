/- The walks of the landed blank and bare. They only read. -/
import Derived.Outline
import Derived.Shelf.Strings.OnBuilder
import Derived.Test.YtkmloefbkgcbkaaGreatDoorSr15
import Derived.Test.YtkmloefbkgcbkaaGreatDoorSr1
set_option maxRecDepth 100000
set_option maxHeartbeats 1000000
namespace Go.Proofs.YtkmloefbkgcbkaaGreatDoor.Blk
open Go.RowKit
theorem Yaa (c:UInt8):blankB c=(((c.toNat:Int) == 9) || ((c.toNat:Int) == 32)):=by
 unfold blankB
 by_cases h9:c=9
 · subst h9;rfl
 by_cases h32:c=32
 · subst h32;rfl
 have e9:((c.toNat:Int) == 9)=false:=Pz (La h9);have e32:((c.toNat:Int) == 32)=false:=Pz (La h32);rw [e9,e32];simp [h9,h32]
theorem Q5 (c:UInt8) (w:World):Calls Tryz.prog 152 #[.int .u8 (c.toNat:Int)] w fun e w'=>e=.returned (.bool (blankB c))∧w=w':=by
 have H:=Hd (Yaa c)
 by_cases h9:c=9
 · subst h9
   go_enter Tryz.func152,Tryz.ntmps152
   go_wp2
   go_ret
   exact ⟨rfl,rfl⟩
 · have n9:((c.toNat:Int) == 9)=false:=Pz (La h9)
   by_cases h32:c=32
   · subst h32
     go_enter Tryz.func152,Tryz.ntmps152
     go_wp2
     go_ret
     exact ⟨rfl,rfl⟩
   · have n32:((c.toNat:Int) == 32)=false:=Pz (La h32)
     have hf:Hid (blankB c=false):=Hd (by rw [H.out,n9,n32];rfl)
     go_enter Tryz.func152,Tryz.ntmps152
     go_wp2
     go_ret
     exact ⟨Z6 hf.out.symm,rfl⟩
theorem Zq4 (s:ByteArray) (w:World) (hs:s.size≤100000):Calls Tryz.prog 133 #[.string s] w fun e w'=>e=.returned (.bool (!inkB s.data.toList))∧w=w':=by
 have HL:Hid (s.data.toList.length=s.size):=Hd Array.length_toList
 go_enter Tryz.func133,Tryz.ntmps133
 go_wp2_with fail
 go_loopg [6] s.size (fun g i wx=>∃ k:Nat,k+g=s.size∧i=.int .i64 k∧Aside ((s.data.toList.take k).all blankB=true)∧w=wx)
 case atStart=>exact ⟨0,by omega,rfl,Aside.intro (by simp),rfl⟩
 case round =>
  obtain ⟨k,hk,rfl,H,rfl⟩:=hrel
  cases gk with
  | zero =>
    obtain rfl:k=s.size:=by omega
    have he:=H.out;rw [List.take_of_length_le (by rw [HL.out];omega)] at he;have h2:=Hd (Do he).2;clear he H;go_wp2_with fail
    go_ret
    exact ⟨Z6 (by rw [h2.out];rfl),rfl⟩
  | succ g =>
    have hlt:k < s.size:=by omega
    have hlt':(k:Int) < (s.size:Int):=by omega
    have HB:=Hd (fun w=>Q5 s[k] w)
    cases hb:blankB s[k]
    · have hT:=Hd (Zj2 H.out (by rw [List.getElem?_eq_getElem (by rw [HL.out];exact hlt)];rfl) hb).2
      have hB:=Hd hb;clear H hb;go_wp2_with fail
      refine (HB.out _).mono ?_;rintro e w1 ⟨rfl,rfl⟩;rw [hB.out];go_wp2_with fail
      go_ret
      exact ⟨Z6 (by rw [hT.out];rfl),rfl⟩
    · have hT:=Hd (Eo hlt H.out hb)
      have hB:=Hd hb;clear H hb;go_wp2_with fail
      refine (HB.out _).mono ?_;rintro e w1 ⟨rfl,rfl⟩;rw [hB.out];go_wp2_with fail
      go_roundg g
      case measure=>omega
      case rel=>exact ⟨k+1,by omega,by go_num,Aside.intro hT.out,rfl⟩
theorem Zjz (A : Option Addr) (n c:Nat) (xs:List ByteArray) (w:World) (hn:n≤100000) (hz:Fk w w.heap.size A n xs) (hx:∀ x ∈ xs,x.size≤100000) :
  Calls Tryz.prog 132 #[.slice A n c] w fun e w'=>e=.returned (.int .i64 (indentL (Zq xs)))∧w=w':=by
 have HZ:=Hd hz;have HX:=Hd hx;clear hz hx
 go_enter Tryz.func132,Tryz.ntmps132
 go_wp2
 go_step3
 go_wp2
 go_step3
 go_wp2
 go_loopg [3,9] n (fun g out i wx=>∃ k:Nat,k+g=n∧i=.int .i64 k∧out=.int .i64 (Uc xs k)∧w=wx)
 case atStart=>exact ⟨0,by omega,rfl,by simp [Uc],rfl⟩
 case round =>
  obtain ⟨k,hkg,rfl,rfl,rfl⟩:=hrel;have hbd:=Ds xs HX.out k;have hbd1:=hbd.1;have hbd2:=hbd.2;clear hbd
  cases gk with
  | zero =>
    obtain rfl:k=n:=by omega
    have hfin:=Hd (Cq (xs:=xs) (k:=k) (by rw [HZ.out.1];omega));go_wp2_with fail
    try rw [Exit.noGoto_ret]
    go_ret
    exact ⟨Zjo hfin.out,rfl⟩
  | succ g =>
    have hlt':(k:Int) < (n:Int):=by omega
    obtain ⟨x,hxk⟩:∃ x,xs[k]? = some x:=⟨_,List.getElem?_eq_getElem (by rw [HZ.out.1];omega)⟩;obtain ⟨b,o,rfl,hblt,hcell⟩:=HZ.out.2 k x hxk;have hxs:x.size≤100000:=HX.out x (List.mem_of_getElem? hxk);have hk0:(0:Int)≤(k:Int):=by omega
    by_cases hk:k=0
    · have hs:Hid (Uc xs (k+1)=Uc xs k):=Hd (by simp [Uc,hk])
      have hkeq:((k:Int) == 0)=true:=by simp;omega
      clear hxk hk;generalize Uc xs k=v at *;go_wp2_with fail
      go_roundg g
      case measure=>omega
      case rel=>exact ⟨k+1,by omega,by go_num,by rw [hs.out],rfl⟩
    · have hk1 : 1≤k:=by omega
      have hkne:((k:Int) == 0)=false:=by simp;omega
      have hs:=Hd (Q8 hk1 hxk);have HXL:Hid (x.data.toList.length=x.size):=Hd Array.length_toList;clear hxk hk;generalize Uc xs k=v at *;go_wp2_with fail
      go_loopg [3,18] x.size (fun g2 out i wx=>∃ j:Nat,j+g2=x.size∧i=.int .i64 j∧out=.int .i64 v∧Aside ((x.data.toList.take j).all blankB=true)∧w=wx)
      case atStart=>exact ⟨0,by omega,rfl,rfl,Aside.intro (by simp),rfl⟩
      case round =>
       obtain ⟨j,hj,rfl,rfl,H,rfl⟩:=hrel
       cases gk with
       | zero =>
         obtain rfl:j=x.size:=by omega
         have he:=H.out;rw [List.take_of_length_le (by rw [HXL.out];omega)] at he;have h2:=(Do he).2;have hst:Hid (Uc xs (k+1)=v):=Hd (by rw [hs.out];unfold stepI;rw [if_neg (by rw [h2];simp)]);clear he H h2;go_wp2_with fail
         go_roundg g
         case measure=>omega
         case rel=>exact ⟨k+1,by omega,by go_num,by rw [hst.out],rfl⟩
       | succ g2 =>
         have hlt:j < x.size:=by omega
         have hltj:(j:Int) < (x.size:Int):=by omega
         have hj0:(0:Int)≤(j:Int):=by omega
         have HB:=Hd (fun w=>Q5 x[j] w)
         cases hb:blankB x[j]
         · have hx2:=Zj2 H.out (by rw [List.getElem?_eq_getElem (by rw [HXL.out];exact hlt)];rfl) hb
           have hB:=Hd hb;have hx21:=Hd hx2.1;have hx22:=Hd hx2.2;clear H hb hx2
           by_cases hv:v < 0
           · have hst:Hid (Uc xs (k+1)=(j:Int)):=Hd (by rw [hs.out];unfold stepI;rw [hx21.out,if_pos ⟨hx22.out,.inl hv⟩])
             go_wp2_with fail
             refine (HB.out _).mono ?_;rintro e w1 ⟨rfl,rfl⟩;rw [hB.out];go_wp2_with fail
             go_roundg g
             case measure=>omega
             case rel=>exact ⟨k+1,by omega,by go_num,by rw [hst.out],rfl⟩
           · have e1:decide (v < 0)=false:=by simp;omega
             by_cases hmv:(j:Int) < v
             · have hst:Hid (Uc xs (k+1)=(j:Int)):=Hd (by rw [hs.out];unfold stepI;rw [hx21.out,if_pos ⟨hx22.out,.inr hmv⟩])
               go_wp2_with fail
               refine (HB.out _).mono ?_;rintro e w1 ⟨rfl,rfl⟩;rw [hB.out];go_wp2_with fail
               go_roundg g
               case measure=>omega
               case rel=>exact ⟨k+1,by omega,by go_num,by rw [hst.out],rfl⟩
             · have e2:decide ((j:Int) < v)=false:=by simp;omega
               have hst:Hid (Uc xs (k+1)=v):=Hd (by rw [hs.out];unfold stepI;rw [hx21.out,if_neg (by rintro ⟨_,h|h⟩<;>omega)]);go_wp2_with fail
               refine (HB.out _).mono ?_;rintro e w1 ⟨rfl,rfl⟩;rw [hB.out];go_wp2_with fail
               go_roundg g
               case measure=>omega
               case rel=>exact ⟨k+1,by omega,by go_num,by rw [hst.out],rfl⟩
         · have hT:=Hd (Eo hlt H.out hb)
           have hB:=Hd hb;clear H hb;go_wp2_with fail
           refine (HB.out _).mono ?_;rintro e w1 ⟨rfl,rfl⟩;rw [hB.out];go_wp2_with fail
           go_roundg g2
           case measure=>omega
           case rel=>exact ⟨j+1,by omega,by go_num,rfl,Aside.intro hT.out,rfl⟩
open Go.Shelf Go.RowKit
def Yfa:Go.Shelf.Ren:=⟨fun|156=>134|165=>153|166=>107|169=>106|240=>135|241=>170|276=>154|277=>178|n=>n,fun|0=>0|3=>3|4=>4|5=>5|9=>9|20=>20|31=>31|37=>128|70=>135|72=>137|75=>139|76=>140|80=>47|127=>162|164=>177|n=>n,fun|n=>n⟩
theorem Zxy:Go.Proofs.Lays.n156 Tryz.prog Yfa:={
 mixed:=by kernel_rfl
 f156:=Tryz.func134.trans (congrArg some (by kernel_rfl))
 f165:=Tryz.func153.trans (congrArg some (by kernel_rfl))
 f166:=Tryz.func107.trans (congrArg some (by kernel_rfl))
 f169:=Tryz.func106.trans (congrArg some (by kernel_rfl))
 f240:=Tryz.func135.trans (congrArg some (by kernel_rfl))
 f241:=Tryz.func170.trans (congrArg some (by kernel_rfl))
 f276:=Tryz.func154.trans (congrArg some (by kernel_rfl))
 f277:=Tryz.func178.trans (congrArg some (by kernel_rfl))
 t0:=Tryz.underlying0
 a0:=Tryz.isAgg0
 z0:=Tryz.sizeOf0
 v0:=Tryz.zeroValue0
 t3:=Tryz.underlying3
 a3:=Tryz.isAgg3
 z3:=Tryz.sizeOf3
 v3:=Tryz.zeroValue3
 t4:=Tryz.underlying4
 a4:=Tryz.isAgg4
 z4:=Tryz.sizeOf4
 v4:=Tryz.zeroValue4
 t9:=Tryz.underlying9
 a9:=Tryz.isAgg9
 z9:=Tryz.sizeOf9
 v9:=Tryz.zeroValue9
 t20:=Tryz.underlying20
 a20:=Tryz.isAgg20
 z20:=Tryz.sizeOf20
 v20:=Tryz.zeroValue20
 t31:=Tryz.underlying31
 a31:=Tryz.isAgg31
 z31:=Tryz.sizeOf31
 v31:=Tryz.zeroValue31
 t37:=Tryz.underlying128
 a37:=Tryz.isAgg128
 z37:=Tryz.sizeOf128
 v37:=Tryz.zeroValue128
 t70:=Tryz.underlying135
 a70:=Tryz.isAgg135
 z70:=Tryz.sizeOf135
 v70:=Tryz.zeroValue135
 t72:=Tryz.underlying137
 a72:=Tryz.isAgg137
 z72:=Tryz.sizeOf137
 v72:=Tryz.zeroValue137
 t75:=Tryz.underlying139
 a75:=Tryz.isAgg139
 z75:=Tryz.sizeOf139
 v75:=Tryz.zeroValue139
 t76:=Tryz.underlying140
 a76:=Tryz.isAgg140
 z76:=Tryz.sizeOf140
 v76:=Tryz.zeroValue140
 t127:=Tryz.underlying162
 a127:=Tryz.isAgg162
 z127:=Tryz.sizeOf162
 v127:=Tryz.zeroValue162
 t164:=Tryz.underlying177
 a164:=Tryz.isAgg177
 z164:=Tryz.sizeOf177
 v164:=Tryz.zeroValue177 }
theorem Sv:Builder.Extra Tryz.prog Yfa:={
 sizeBuilder:=by kernel_rfl
 liesBuilder:=by kernel_rfl
 t5:=Tryz.underlying5
 a5:=Tryz.isAgg5
 z5:=Tryz.sizeOf5
 v5:=Tryz.zeroValue5
 infoByte:=by kernel_rfl
 cellsByte:=by kernel_rfl
 sizeByte:=by kernel_rfl
 neB5:=by decide }
theorem Zvc (bk o c:Nat) (xs:List ByteArray) (sep:ByteArray) (w:World) (hcells:∀ (j:Nat) x,xs[j]? = some x→w.cell? ⟨bk,o+j,none⟩=some (.string x)) (hbk:bk < w.heap.size) (hN:xs.length≤140737488355328) (hcap:xs.length≤c) (hlen:(Lib.join (xs.map (·.data.toList)) sep.data.toList).length≤140737488355328) :
  Calls Tryz.prog 134 #[.slice (some ⟨bk,o,none⟩) xs.length c,.string sep] w fun e w'=>e=.returned (.string ⟨(Lib.join (xs.map (·.data.toList)) sep.data.toList).toArray⟩)∧Below w.heap.size w w':=
 Any.strings_Join Zxy Sv bk o c xs sep w hcells hbk hN hcap hlen
theorem Ya8 (a:Option Addr) (c:Nat) (sep:ByteArray) (w:World) :
  Calls Tryz.prog 134 #[.slice a 0 c,.string sep] w fun e w'=>e=.returned (.string ⟨#[]⟩)∧w'=w:=
 Any.strings_Join_none Zxy Sv a c sep w
def My:List (List UInt8)→Nat
 | []=>0
 | x :: t=>x.length+My t
theorem Zk6:∀ ls:List (List UInt8),(joinTen ls).length+1=My ls+ls.length+(if ls=[] then 1 else 0):=by
 intro ls
 induction ls with
 | nil=>rfl
 | cons x t ih =>
   cases t with
   | nil=>simp [joinTen,My]
   | cons y t =>
     rw [if_neg (by simp)] at ih ⊢
     show (x++10 :: joinTen (y :: t)).length+1=_;rw [List.length_append,List.length_cons]
     show _=x.length+My (y :: t)+((y :: t).length+1)+0;omega
theorem Ms (a b:List (List UInt8)):My (a++b)=My a+My b:=by
 induction a with
 | nil=>simp [My]
 | cons x t ih=>rw [List.cons_append];simp only [My];omega
theorem Ydw {a b:List (List UInt8)} (h:a <:+: b):My a+a.length≤My b+b.length:=by
 obtain ⟨p,q,rfl⟩:=h;rw [Ms,Ms,List.length_append,List.length_append];omega
theorem trim_infix (ls:List (List UInt8)):Od ls <:+: ls:=by
 have h1:Od ls <+: Io ls:=by
  have:=List.dropWhile_suffix (l:=(Io ls).reverse) (fun x=>!inkB x);have h2:=List.reverse_prefix.2 this;rw [List.reverse_reverse] at h2;exact h2
 have h2:Io ls <:+ ls:=List.dropWhile_suffix _;exact h1.isInfix.trans h2.isInfix
theorem Yn3 (n:Nat) (ls:List (List UInt8)):My (cutL n ls)≤My ls∧(cutL n ls).length=ls.length:=by
 cases ls with
 | nil=>exact ⟨Nat.le_refl _,rfl⟩
 | cons x t =>
   simp only [cutL,My,List.length_cons,List.length_map,and_true]
   have:My (t.map (List.drop n))≤My t:=by
    induction t with
    | nil=>exact Nat.le_refl _
    | cons y t ih=>simp only [List.map_cons,My,List.length_drop];omega
   omega
theorem Ye1 {l t:List UInt8} (h:afterL l=some t):(firstL l).length+1+t.length≤l.length:=by
 have e:(firstL l).length+(l.dropWhile fun c=>!eolB c).length=l.length:=by
  unfold firstL;rw [← List.length_append,List.takeWhile_append_dropWhile]
 have : t.length < (l.dropWhile fun c=>!eolB c).length:=by
  unfold afterL at h;generalize l.dropWhile (fun c=>!eolB c)=r at *
  split at h
  · cases h
  · split at h
    · split at h
      · split at h
        · cases h;simp only [List.length_cons];omega
        · cases h;simp only [List.length_cons];omega
      · cases h;simp
    · cases h;simp
 omega
theorem Yfc:∀ (n:Nat) (l:List UInt8),l.length < n→My (linesL l)+(linesL l).length≤l.length+1:=by
 intro n
 induction n with
 | zero=>intro l h;omega
 | succ n ih =>
   intro l hl
   have hf:(firstL l).length≤l.length:=by
     unfold firstL;have e:(l.takeWhile fun c=>!eolB c).length+(l.dropWhile fun c=>!eolB c).length=l.length:=by rw [← List.length_append,List.takeWhile_append_dropWhile]
     omega
   rw [linesL_eq]
   cases ha:afterL l with
   | none=>simp only [My,List.length_cons,List.length_nil];omega
   | some t =>
     have hr:=Ye1 ha;have:=ih t (by omega);simp only [My,List.length_cons];omega
theorem value_len (raw:List UInt8):(valueL raw).length≤raw.length:=by
 have h1:=Yfc _ raw (Nat.lt_succ_self _);have h2:=Yn3 (max (indentL (linesL raw)) 0).toNat (linesL raw);have h3:=Ydw (trim_infix (cutL (max (indentL (linesL raw)) 0).toNat (linesL raw)));have h4:=Zk6 (Tm raw);unfold valueL
 by_cases hs:Tm raw=[]
 · rw [hs];simp [joinTen]
 · rw [if_neg hs] at h4
   have h3':My (Tm raw)+(Tm raw).length≤My (cutL (max (indentL (linesL raw)) 0).toNat (linesL raw))+(cutL (max (indentL (linesL raw)) 0).toNat (linesL raw)).length:=h3;omega
def Jy (n:Nat):List UInt8:=List.replicate n 32
theorem Yel (k:Nat) (xs:List ByteArray):Wh 0 k xs=xs:=by
 apply List.ext_getElem?
 intro j;rw [Uo]
 cases xs[j]? with
 | none=>rfl
 | some x =>
   simp only [Option.map_some]
   split
   · congr 1;unfold Zkw;rw [Nat.zero_min];exact ByteArray.extract_zero_size
   · rfl
theorem Rn {ys:List ByteArray} {f n j:Nat} {x:ByteArray} (h:((ys.drop f).take n)[j]? = some x):ys[f+j]? = some x:=by
 rw [List.getElem?_take] at h
 split at h
 · rw [List.getElem?_drop] at h;exact h
 · cases h
theorem Yg0:∀ ls:List (List UInt8),Lib.join ls [10]=joinTen ls:=by
 intro ls
 induction ls with
 | nil=>rfl
 | cons x t ih =>
   cases t with
   | nil=>exact Lib.join_one x [10]
   | cons y t =>
     rw [Lib.join_cons]
     show _=x++10 :: joinTen (y :: t);rw [← ih,Lib.join_cons];simp [Lib.joinTail]
theorem Zvj (s:ByteArray) (w:World) (hs:s.size≤13000) :
  Calls Tryz.prog 105 #[.string s] w fun e w'=>e=.returned (.string ⟨(valueL s.data.toList).toArray⟩)∧Below w.heap.size w w':=by
 have HR:=Hd (Ya9 s w hs)
 go_enter Tryz.func105,Tryz.ntmps105
 go_wp2_with fail
 refine HR.out.mono ?_;rintro e w1 ⟨A,cap,rfl,hown,hb⟩;have hroom:=P2 (s.data.toList.length+1) s.data.toList (by omega);rw [← Lib.size_eq] at hroom
 have hxs:∀ x ∈ Y9 s.data.toList,x.size≤13000:=by
  intro x hx;obtain ⟨l,hl,rfl⟩:=List.mem_map.1 hx;have:=hroom.2.1 l hl
  show l.length≤_;omega
 have hN:(Y9 s.data.toList).length≤13001:=by unfold Y9;rw [List.length_map];omega
 have hN1:1≤(Y9 s.data.toList).length:=by
  unfold Y9;rw [List.length_map];have:=Ar s.data.toList
  cases h:linesL s.data.toList with
  | nil=>exact absurd h this
  | cons _ _=>simp
 clear hroom;obtain ⟨g0,rfl,hbg,hgl,hcap⟩:=T6 hown (by omega);have HI:=Hd (Zjz (some ⟨g0,0,none⟩) (Y9 s.data.toList).length cap (Y9 s.data.toList) w1 (by omega) (C2 hown).2 (fun x hx=>by have:=hxs x hx;omega));have hib:=Ds _ (fun x hx=>by have:=hxs x hx;omega) (Y9 s.data.toList).length;rw [Cq (Nat.le_refl _)] at hib;have HVAL:Hid (valueL s.data.toList=joinTen (Od (cutL (max (indentL (Zq (Y9 s.data.toList))) 0).toNat (Zq (Y9 s.data.toList))))):=Hd (by rw [Oz];rfl);generalize Y9 s.data.toList=xs at *;generalize hv:indentL (Zq xs)=v at *;have hib1:=hib.1;have hib2:=hib.2;have HEX:=Hd hxs;have HB:=Hd hb;clear hxs hv hib hb HR
 go_upto_if 13 with (fail)
 refine HI.out.mono ?_;rintro e w2 ⟨rfl,rfl⟩;obtain ⟨tst,hd⟩:∃ t:Bool,decide (0 < v)=t:=⟨_,rfl⟩
 go_upto_if 13 with (fail)
 have HD:=Hd hd;clear hd;obtain ⟨M,hM⟩:∃ M,(max v 0).toNat=M:=⟨_,rfl⟩;have hm1:M≤100000:=by omega
 rw [hM] at HVAL;have HM:=Hd hM;clear hM
 go_cut [3] (fun l wx=>l=.slice (some ⟨g0,0,none⟩) xs.length cap∧wx.ownsRow w.heap.size 9 1 (.slice (some ⟨g0,0,none⟩) xs.length cap) xs.length ((Wh M xs.length xs).map Value.string)∧Below w.heap.size w wx)
 case first =>
  cases tst
  · obtain rfl:M=0:=by have h1:=HM.out;have h2:=of_decide_eq_false HD.out;omega
    go_wp2_with fail
    go_meet
    exact ⟨rfl,by rw [Yel];exact hown,HB.out⟩
  · have hv0:=of_decide_eq_true HD.out
    obtain ⟨m,rfl⟩:∃ m:Nat,v=m:=⟨v.toNat,by omega⟩;obtain rfl:m=M:=by have:=HM.out;omega
    clear HI hib1 hib2 HM HD;go_wp2_with fail
    go_loopg [5] (xs.length - 1) (fun g i wx=>∃ k:Nat,1≤k∧k+g=xs.length∧i=.int .i64 k∧wx.ownsRow w.heap.size 9 1 (.slice (some ⟨g0,0,none⟩) xs.length cap) xs.length ((Wh m k xs).map Value.string)∧Below w.heap.size w wx)
    case atStart=>exact ⟨1,by omega,by omega,rfl,by rw [P9];exact hown,HB.out⟩
    case round =>
      obtain ⟨k,hk1,hk,rfl,hown,hb⟩:=hrel
      cases gk with
      | succ g =>
        have hlt:k < xs.length:=by omega
        have hlt':(k:Int) < (xs.length:Int):=by omega
        have hk0:(0:Int)≤(k:Int):=by omega
        obtain ⟨x,hx⟩:∃ x,xs[k]? = some x:=⟨_,List.getElem?_eq_getElem hlt⟩
        have hget:(Wh m k xs)[k]? = some x:=by
          rw [Uo,hx];simp only [Option.map_some];rw [if_neg (by omega)]
        have c1:wr.cell? ⟨g0,k,none⟩=some (.string x):=by
          rw [World.ownsRow.cellAt hown k (by omega),List.getElem?_map,hget];rfl
        have f1:wr.frozen? ⟨g0,k,none⟩=false:=World.ownsRow.frozenAt hown k;have hxs:x.size≤13000:=HEX.out x (List.mem_of_getElem? hx);have HO:=Hd (World.ownsRow.stored hown k (.string (Zkw m x)));have HS:=Hd (Zkn (m:=m) hk1 hx);have HB2:=Hd hb;have hcx:Hid (Zkw m x=x.extract (min m x.size) x.size):=Hd rfl;clear hown hb hx hget HB;obtain ⟨K,hKd⟩:∃ K,min m x.size=K:=⟨_,rfl⟩;have hK:min (m:Int) (x.size:Int)=(K:Int):=by omega
        have hKs:(K:Int)≤(x.size:Int):=by omega
        have hK0:(0:Int)≤(K:Int):=by omega
        have HKd:=Hd hKd;clear hKd;go_wp2_with fail
        go_still_tail 15,(by kernel_rfl)
        change wpList _ _ _ _ _ wr.drew
        go_wp2
        go_roundg g
        case measure=>omega
        case rel =>
          refine ⟨k+1,by omega,by omega,by go_num,?_,(HB2.out.drew).setCell hbg _⟩;have e:((Wh m k xs).map Value.string).set k (.string (Zkw m x))=(Wh m (k+1) xs).map Value.string:=by rw [← HS.out,List.map_set]
          rw [← e,hcx.out,HKd.out];rw [hcx.out,HKd.out] at HO;exact HO.out.1.drew
      | zero =>
        obtain rfl:k=xs.length:=by omega
        go_wp2_with fail
        go_meet
        exact ⟨rfl,hown,hb⟩
 case rest =>
  obtain ⟨rfl,hown,hb⟩:=hcut;clear HI hib1 hib2 HM HD;have hyl:(Wh M xs.length xs).length=xs.length:=Mo _ _ _;have hyb:=Np M xs
  have hys:∀ y ∈ Wh M xs.length xs,y.size≤13000:=by
    intro y hy;obtain ⟨j,hj⟩:=List.mem_iff_getElem?.1 hy;rw [Uo] at hj;obtain ⟨x,hx,rfl⟩:=Option.map_eq_some_iff.1 hj;have:=HEX.out x (List.mem_of_getElem? hx)
    split
    · unfold Zkw;rw [ByteArray.size_extract];omega
    · exact this
  have hval:Hid (valueL s.data.toList=joinTen (Od (Zq (Wh M xs.length xs)))):=Hd (by rw [HVAL.out,hyb]);generalize Wh M xs.length xs=ys at *;have hgc:g0 < wc.heap.size:=(hown.lt g0 rfl).2;have HS:=Hd (Op hown);have HYS:=Hd hys;have HYL:=Hd hyl;have HBB:=Hd hb;clear hown hyb hys hyl hb HVAL HB;generalize xs.length=N at *;clear HEX
  go_upto_block 2 with (fail)
  go_cut [6] (fun fr wx=>∃ f:Nat,f≤N∧fr=.int .i64 f∧Aside (Io (Zq ys)=(Zq ys).drop f)∧wc=wx)
  case first =>
    go_wp2_with fail
    go_loopg [6] N (fun g fr wx=>∃ f:Nat,f+g=N∧fr=.int .i64 f∧Aside (((Zq ys).take f).all (fun l=>!inkB l)=true)∧wc=wx)
    case atStart=>exact ⟨0,by omega,rfl,Aside.intro (by simp),rfl⟩
    case round =>
      obtain ⟨f,hf,rfl,H,rfl⟩:=hrel
      cases gk with
      | zero =>
        obtain rfl:f=N:=by omega
        have hT:=Hd (Zqy H.out (by unfold Zq;rw [List.length_map,HYL.out];omega));clear H;go_wp2_with fail
        go_meet
        exact ⟨_,by omega,rfl,Aside.intro (by rw [hT.out,List.drop_eq_nil_of_le (by unfold Zq;rw [List.length_map,HYL.out];omega)]),rfl⟩
      | succ g =>
        have hlt:f < N:=by omega
        have hlt':(f:Int) < (N:Int):=by omega
        obtain ⟨y,hy⟩:∃ y,ys[f]? = some y:=⟨_,List.getElem?_eq_getElem (by rw [HYL.out];omega)⟩;obtain ⟨b,o,e,_,hcell⟩:=HS.out.2 f y hy;injection e with e
        injection e with e1 e2
        subst e1 e2;rw [Nat.zero_add] at hcell;have HBk:=Hd (Zq4 y wc (by have:=HYS.out y (List.mem_of_getElem? hy);omega));have hyb:(Zq ys)[f]? = some y.data.toList:=by unfold Zq;rw [List.getElem?_map,hy];rfl
        cases hi:inkB y.data.toList
        · have hT:=Hd (Nv H.out hyb hi)
          have HIk:=Hd hi;clear H hy hyb hi;go_wp2_with fail
          refine HBk.out.mono ?_;rintro e w2 ⟨rfl,rfl⟩;rw [HIk.out];go_wp2_with fail
          go_roundg g
          case measure=>omega
          case rel=>exact ⟨f+1,by omega,by go_num,Aside.intro hT.out,rfl⟩
        · have hT:=Hd (Q6 H.out hyb hi)
          have HIk:=Hd hi;clear H hy hyb hi;go_wp2_with fail
          refine HBk.out.mono ?_;rintro e w2 ⟨rfl,rfl⟩;rw [HIk.out];go_wp2_with fail
          go_meet
          exact ⟨f,by omega,rfl,Aside.intro hT.out,rfl⟩
  case rest =>
    obtain ⟨f,hfN,rfl,HF,rfl⟩:=hcut
    go_upto_block 4 with (fail)
    go_cut [7] (fun tv wx=>∃ t:Nat,f≤t∧t≤N∧tv=.int .i64 t∧Aside (Od (Zq ys)=((Zq ys).drop f).take (t - f))∧wc=wx)
    case first =>
      go_wp2_with fail
      go_loopg [7] (N - f) (fun g tv wx=>∃ t:Nat,f≤t∧t≤f+g∧t≤N∧tv=.int .i64 t∧Aside (((Zq ys).drop t).all (fun l=>!inkB l)=true)∧wc=wx)
      case atStart=>exact ⟨N,by omega,by omega,by omega,rfl,Aside.intro (by rw [List.drop_eq_nil_of_le (by unfold Zq;rw [List.length_map,HYL.out];omega)];rfl),rfl⟩
      case round =>
        obtain ⟨t,hft,htg,htN,rfl,H,rfl⟩:=hrel
        by_cases hte:t=f
        · subst hte
          have hT:=Hd (Zx8 HF.out H.out);clear H;go_wp2_with fail
          go_meet
          exact ⟨t,by omega,by omega,rfl,Aside.intro hT.out,rfl⟩
        · have hft1:f < t:=by omega
          obtain ⟨g,rfl⟩:∃ g,gk=g+1:=⟨gk - 1,by omega⟩;obtain ⟨u,rfl⟩:∃ u,t=u+1:=⟨t - 1,by omega⟩;have hfu:(f:Int) < (u:Int)+1:=by omega
          have hu0:(0:Int)≤(u:Int):=by omega
          have hu1:(u:Int) < (N:Int):=by omega
          obtain ⟨y,hy⟩:∃ y,ys[u]? = some y:=⟨_,List.getElem?_eq_getElem (by rw [HYL.out];omega)⟩;obtain ⟨b,o,e,_,hcell⟩:=HS.out.2 u y hy;injection e with e
          injection e with e1 e2
          subst e1 e2;rw [Nat.zero_add] at hcell;have HBk:=Hd (Zq4 y wc (by have:=HYS.out y (List.mem_of_getElem? hy);omega));have hyb:(Zq ys)[u]? = some y.data.toList:=by unfold Zq;rw [List.getElem?_map,hy];rfl
          cases hi:inkB y.data.toList
          · have hT:=Hd (Q7 H.out hyb hi)
            have HIk:=Hd hi;clear H hy hyb hi hte;go_wp2_with fail
            refine HBk.out.mono ?_;rintro e w2 ⟨rfl,rfl⟩;rw [HIk.out];go_wp2_with fail
            go_roundg g
            case measure=>omega
            case rel=>exact ⟨u,by omega,by omega,by omega,by go_num,Aside.intro hT.out,rfl⟩
          · have hT:=Hd (Tc HF.out (by omega) H.out hyb hi)
            have HIk:=Hd hi;clear H hy hyb hi hte;go_wp2_with fail
            refine HBk.out.mono ?_;rintro e w2 ⟨rfl,rfl⟩;rw [HIk.out];go_wp2_with fail
            go_meet
            exact ⟨u+1,by omega,by omega,by go_num,Aside.intro hT.out,rfl⟩
    case rest =>
      obtain ⟨t,hft,htN,rfl,HT,rfl⟩:=hcut;have hf0:(0:Int)≤(f:Int):=by omega
      have hft':(f:Int)≤(t:Int):=by omega
      have hzl:Hid (((ys.drop f).take (t - f)).length=t - f):=Hd (by rw [List.length_take,List.length_drop,HYL.out];omega)
      have hzb:Hid (Lib.join (((ys.drop f).take (t - f)).map (·.data.toList)) (⟨#[10]⟩:ByteArray).data.toList=valueL s.data.toList):=Hd (by
        show Lib.join _ [10]=_;rw [Yg0,hval.out,HT.out];unfold Zq;rw [List.map_take,List.map_drop])
      have hvl:(valueL s.data.toList).length≤13000:=by have:=value_len s.data.toList;rw [← Lib.size_eq] at this;omega
      by_cases hcf:cap=f
      · obtain rfl:t=f:=by omega
        have hnil:Hid ((⟨(valueL s.data.toList).toArray⟩:ByteArray)=⟨#[]⟩):=Hd (by rw [hval.out,HT.out];simp [joinTen]);have HC:=Hd hcf;subst hcf;have HJ:=Hd (fun a c=>Ya8 a c ⟨#[10]⟩ wc);have ht0:cap - cap=0:=by omega
        go_wp2_with fail
        refine (HJ.out _ _).mono ?_;rintro e w3 ⟨rfl,rfl⟩;go_wp2_with fail
        go_ret
        exact ⟨Zja hnil.out.symm,HBB.out⟩
      · have HJ:=Hd (Zvc g0 f (cap - f) ((ys.drop f).take (t - f)) ⟨#[10]⟩ wc (fun j x hj=>by
          obtain ⟨b,o,e,_,hc⟩:=HS.out.2 (f+j) x (Rn hj);injection e with e
          injection e with e1 e2
          subst e1 e2;rw [Nat.zero_add] at hc;exact hc) hgc (by rw [hzl.out];omega) (by rw [hzl.out];omega) (by rw [hzb.out];omega))
        rw [hzl.out,hzb.out] at HJ;go_wp2_with fail
        refine HJ.out.mono ?_;rintro e w3 ⟨rfl,hb3⟩;have HB3:=Hd hb3;clear hb3;obtain ⟨V,hV⟩:∃ V:ByteArray,(⟨(valueL s.data.toList).toArray⟩:ByteArray)=V:=⟨_,rfl⟩;have HV:=Hd hV;rw [hV];clear hV;go_wp2_with fail
        go_ret
        exact ⟨Zja HV.out.symm,HBB.out.trans (HB3.out.mono HBB.out.size)⟩
theorem pvalue (s:ByteArray) (w:World) (hs:s.size≤13000):Calls Tryz.prog 105 #[.string s] w fun e w'=>e=.returned (.string ⟨(valueL s.data.toList).toArray⟩)∧Below w.heap.size w w':=Zvj s w hs
end Go.Proofs.YtkmloefbkgcbkaaGreatDoor.Blk
