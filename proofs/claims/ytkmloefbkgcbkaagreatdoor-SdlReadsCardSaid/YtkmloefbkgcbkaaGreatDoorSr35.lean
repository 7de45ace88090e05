/- The document's own RightToken. -/
import Derived.Test.YtkmloefbkgcbkaaGreatDoorSr34
set_option maxRecDepth 100000
set_option maxHeartbeats 4000000
namespace Go.Proofs.YtkmloefbkgcbkaaGreatDoor
open Go.RowKit
def dW (b:UInt8):Nat:=(b.toNat+208) % 256
theorem Ycd (b:UInt8):IntKind.u8.wrap ((b.toNat:Int) - 48)=(dW b:Int):=by
 rw [IntKind.wrap_u8];unfold dW;omega
theorem Yo1 {b:UInt8} (h:Ip b=true):dW b=b.toNat - 48:=by
 have:=Qk h;unfold dW;omega
def Si (a:Nat) (l:List UInt8):Nat:=l.foldl (fun a b=>a*10+dW b) a
theorem Mf:∀ (l:List UInt8) (a:Nat),a≤Si a l
 | [],a=>Nat.le_refl _
 | b :: l,a=>by
   show a≤Si (a*10+dW b) l;have:=Mf l (a*10+dW b);omega
theorem Ly:∀ (l:List UInt8) (a:Nat),l.all Ip=true→Si a l=Dg a l
 | [],_,_=>rfl
 | b :: l,a,h=>by
   rw [List.all_cons,Bool.and_eq_true] at h
   show Si (a*10+dW b) l=Dg (a*10+(b.toNat - 48)) l;rw [Yo1 h.1,Ly l _ h.2]
def F8:List UInt8→Bool
 | []=>true
 | b :: t=>if b=45 then decide (Si 0 t≤9223372036854775808) else decide (Si 0 (b :: t)≤9223372036854775807)
theorem Pa {l:List UInt8} (h:Jf l=3):F8 l=Xt (Aj l):=by
 obtain ⟨m,hm,hd,hne⟩:=C7 h
 cases l with
 | nil=>rfl
 | cons b t =>
   by_cases hb:b=45
   · subst hb
     have:m=1:=by rw [← hm];rfl
     subst this;have hd':t.all Ip=true:=hd;rw [By];rw [F8,if_pos rfl,Ly t 0 hd'];unfold Xt;rw [show Dg 0 t=Ych t from rfl]
     congr 1
     exact propext ⟨fun h=>by omega,fun h=>by omega⟩
   · have:m=0:=by rw [← hm];unfold Zu;simp [hb]
     subst this;have hd':(b :: t).all Ip=true:=hd;rw [O1 hd'];rw [F8,if_neg hb,Ly _ 0 hd'];unfold Xt;rw [show Dg 0 (b :: t)=Ych (b :: t) from rfl]
     congr 1
     exact propext ⟨fun h=>by omega,fun h=>by omega⟩
theorem Zxv (s:ByteArray) (m:Nat) (h:m < s.size) (a:Nat):Si a (s.data.toList.drop m)=Si (a*10+dW s[m]) (s.data.toList.drop (m+1)):=by
 rw [Zc s m h];rfl
theorem Zx6 (D:Int) (h0 : -9223372036854775808≤D) (h1:D≤0):10*Int.tdiv D 10 - 10 < D∧D≤10*Int.tdiv D 10∧D.tdiv 10≤0∧10*Int.tdiv D 10 < D+10:=by
 have h:D.tdiv 10 = -((-D) / 10):=by
  rw [show D = -(-D) by omega,Int.neg_tdiv,Int.tdiv_eq_ediv_of_nonneg (by omega)];simp
 rw [h];omega
theorem Ya6 (s:ByteArray) (hp:0 < s.size):F8 s.data.toList=if s[0]=45 then decide (Si 0 (s.data.toList.drop 1)≤9223372036854775808) else decide (Si 0 (s.data.toList.drop 0)≤9223372036854775807):=by
 have h:=Zc s 0 hp;rw [List.drop_zero] at h;rw [h,F8]
 rfl
def Ak:List UInt8→Int
 | []=>0
 | b :: t=>if b=45 then -(Si 0 t:Int) else (Si 0 (b :: t):Int)
theorem Zj8 (s:ByteArray) (hp:0 < s.size):Ak s.data.toList=if s[0]=45 then -(Si 0 (s.data.toList.drop 1):Int) else (Si 0 (s.data.toList.drop 0):Int):=by
 have h:=Zc s 0 hp;rw [List.drop_zero] at h;rw [h,Ak]
 rfl
theorem Zzt {l:List UInt8} (h:Jf l=3):Ak l=Aj l:=by
 obtain ⟨m,hm,hd,hne⟩:=C7 h
 cases l with
 | nil=>rfl
 | cons b t =>
   by_cases hb:b=45
   · subst hb
     have:m=1:=by rw [← hm];rfl
     subst this;have hd':t.all Ip=true:=hd;rw [By];rw [Ak,if_pos rfl,Ly t 0 hd']
     rfl
   · have:m=0:=by rw [← hm];unfold Zu;simp [hb]
     subst this;have hd':(b :: t).all Ip=true:=hd;rw [O1 hd'];rw [Ak,if_neg hb,Ly _ 0 hd']
     rfl
theorem P4 (s:ByteArray) (w:World) (hs:s.size≤9000):Calls Tryz.prog 122 #[.string s] w fun e w'=>(∃ z,e=.returned (.tuple #[.int .i64 z,.bool (F8 s.data.toList)])∧(F8 s.data.toList=true→z=Ak s.data.toList))∧w=w':=by
 by_cases hn:s.size=0
 · have hd:s.data.toList=[]:=List.eq_nil_of_length_eq_zero (by rw [← Lib.size_eq];exact hn)
   have hr:Hid (F8 s.data.toList=true):=Hd (by rw [hd];rfl);have HZ:Hid (Ak s.data.toList=0):=Hd (by rw [hd];rfl);have hem':s.toList.isEmpty=true:=by rw [Lib.toList_data,hd];rfl
   have hge : ¬ (0:Int) < (s.size:Int):=by omega
   clear hd hn
   go_enter Tryz.func122,Tryz.ntmps122
   go_wp2_with fail
   go_loopg [4,6,7] 0 (fun g iv nv dv wx=>iv=.int .i64 0∧nv=.int .i64 0∧w=wx)
   case atStart=>exact ⟨rfl,rfl,rfl⟩
   case round =>
     obtain ⟨rfl,rfl,rfl⟩:=hrel;go_wp2_with fail
     go_ret2
     exact ⟨⟨_,by rw [hr.out];rfl,fun _=>by rw [HZ.out]⟩,rfl⟩
 · have hp:0 < s.size:=by omega
   have hem':s.toList.isEmpty=false:=by
     rw [Lib.toList_data]
     cases h:s.data.toList with
     | nil=>have h':=Lib.size_eq s;rw [h] at h';have h'':s.size=0:=h';omega
     | cons _ _=>rfl
   have hB:=Ya6 s hp;have hZ:=Zj8 s hp
   by_cases hc:s[0]=45
   · rw [if_pos hc] at hB hZ
     obtain ⟨T,hT⟩:∃ T,Si 0 (s.data.toList.drop 1)=T:=⟨_,rfl⟩;rw [hT] at hB hZ;have HT:=Hd hT;have HZ:=Hd hZ;have HB:=Hd hB;have a1:(s[0].toNat:Int)=45:=by rw [hc];rfl
     clear hn hc hT hB hZ
     go_enter Tryz.func122,Tryz.ntmps122
     go_wp2_with fail
     go_loopg [4,6,7] (s.size - 1) (fun g iv nv dv wx=>∃ (j D:Nat),j+g=s.size∧iv=.int .i64 j∧nv=.int .i64 (-(D:Int))∧D≤9223372036854775808∧Aside (Si D (s.data.toList.drop j)=T)∧w=wx)
     case atStart=>exact ⟨1,0,by omega,rfl,rfl,by omega,Aside.intro HT.out,rfl⟩
     case round =>
      obtain ⟨j,D,hj,rfl,rfl,hD,H,rfl⟩:=hrel
      cases gk with
      | zero =>
        obtain rfl:j=s.size:=by omega
        have hge : ¬ (s.size:Int) < (s.size:Int):=by omega
        have hr:D=T:=by have:=H.out;rwa [List.drop_eq_nil_of_le (by rw [Z7];omega)] at this
        subst hr;clear H HT hj;have hr:Hid (F8 s.data.toList=true):=Hd (by rw [HB.out];exact decide_eq_true hD);clear HB;go_wp2_with fail
        go_ret2
        exact ⟨⟨_,by rw [hr.out];rfl,fun _=>by rw [HZ.out]⟩,rfl⟩
      | succ g =>
        have hlt:j < s.size:=by omega
        have hlt1:(j:Int) < (s.size:Int):=by omega
        have hj0:(0:Int)≤(j:Int):=by omega
        have HN:=H.out;rw [Zxv s j hlt] at HN;clear H;have u1:=Ycd s[j];have hd:dW s[j] < 256:=by unfold dW;omega
        generalize dW s[j]=d at *;have hq:=Zx6 (-9223372036854775808+(d:Int)) (by omega) (by omega);obtain ⟨q,hqq⟩:∃ q,(-9223372036854775808+(d:Int)).tdiv 10=q:=⟨_,rfl⟩;rw [hqq] at hq;obtain ⟨q1,q2,q3,q4⟩:=hq;have wq:wrap64 q=q:=by unfold wrap64;omega
        by_cases hb:D*10+d≤9223372036854775808
        · have hlt2 : ¬ -(D:Int) < q:=by omega
          have w1:wrap64 (10 * -(D:Int))=10 * -(D:Int):=by unfold wrap64;omega
          have w2:wrap64 (10 * -(D:Int) - (d:Int))=10 * -(D:Int) - (d:Int):=by unfold wrap64;omega
          have HN:=Hd HN;clear q1 q2 q3 q4;go_wp2_with fail
          go_roundg g
          case measure=>omega
          case rel=>exact ⟨j+1,D*10+d,by omega,by go_num,by go_num,by omega,Aside.intro HN.out,rfl⟩
        · have hlt2 : -(D:Int) < q:=by omega
          have hm:=Mf (s.data.toList.drop (j+1)) (D*10+d);rw [HN] at hm;have hr:Hid (F8 s.data.toList=false):=Hd (by rw [HB.out];exact decide_eq_false (by omega));clear hm hb HN q1 q2 q3 q4;go_wp2_with fail
          go_ret2
          exact ⟨⟨_,by rw [hr.out];rfl,fun h=>by rw [hr.out] at h;cases h⟩,rfl⟩
   · rw [if_neg hc] at hB hZ
     obtain ⟨T,hT⟩:∃ T,Si 0 (s.data.toList.drop 0)=T:=⟨_,rfl⟩;rw [hT] at hB hZ;have HT:=Hd hT;have HZ:=Hd hZ;have HB:=Hd hB
     have a1:((s[0].toNat:Int) == 45)=false:=by
      have : ¬ s[0].toNat=45:=fun e=>hc (UInt8.toNat_inj.1 (by rw [e];rfl));simp;omega
     clear hn hc hT hB hZ
     go_enter Tryz.func122,Tryz.ntmps122
     go_wp2_with fail
     go_loopg [4,6,7] (s.size - 0) (fun g iv nv dv wx=>∃ (j D:Nat),j+g=s.size∧iv=.int .i64 j∧nv=.int .i64 (-(D:Int))∧D≤9223372036854775808∧Aside (Si D (s.data.toList.drop j)=T)∧w=wx)
     case atStart=>exact ⟨0,0,by omega,rfl,rfl,by omega,Aside.intro HT.out,rfl⟩
     case round =>
      obtain ⟨j,D,hj,rfl,rfl,hD,H,rfl⟩:=hrel
      cases gk with
      | zero =>
        obtain rfl:j=s.size:=by omega
        have hge : ¬ (s.size:Int) < (s.size:Int):=by omega
        have hr:D=T:=by have:=H.out;rwa [List.drop_eq_nil_of_le (by rw [Z7];omega)] at this
        subst hr;clear H HT hj
        by_cases hx:D=9223372036854775808
        · subst hx
          have hr:Hid (F8 s.data.toList=false):=Hd (by rw [HB.out];exact decide_eq_false (by omega));clear HB hD;go_wp2_with fail
          go_ret2
          exact ⟨⟨_,by rw [hr.out];rfl,fun h=>by rw [hr.out] at h;cases h⟩,rfl⟩
        · have hr:Hid (F8 s.data.toList=true):=Hd (by rw [HB.out];exact decide_eq_true (by omega))
          have hx':(-(D:Int) == -9223372036854775808)=false:=by simp;omega
          clear HB;go_wp2_with fail
          go_ret2
          exact ⟨⟨_,by rw [hr.out];rfl,fun _=>by rw [HZ.out]⟩,rfl⟩
      | succ g =>
        have hlt:j < s.size:=by omega
        have hlt1:(j:Int) < (s.size:Int):=by omega
        have hj0:(0:Int)≤(j:Int):=by omega
        have HN:=H.out;rw [Zxv s j hlt] at HN;clear H;have u1:=Ycd s[j];have hd:dW s[j] < 256:=by unfold dW;omega
        generalize dW s[j]=d at *;have hq:=Zx6 (-9223372036854775808+(d:Int)) (by omega) (by omega);obtain ⟨q,hqq⟩:∃ q,(-9223372036854775808+(d:Int)).tdiv 10=q:=⟨_,rfl⟩;rw [hqq] at hq;obtain ⟨q1,q2,q3,q4⟩:=hq;have wq:wrap64 q=q:=by unfold wrap64;omega
        by_cases hb:D*10+d≤9223372036854775808
        · have hlt2 : ¬ -(D:Int) < q:=by omega
          have w1:wrap64 (10 * -(D:Int))=10 * -(D:Int):=by unfold wrap64;omega
          have w2:wrap64 (10 * -(D:Int) - (d:Int))=10 * -(D:Int) - (d:Int):=by unfold wrap64;omega
          have HN:=Hd HN;clear q1 q2 q3 q4;go_wp2_with fail
          go_roundg g
          case measure=>omega
          case rel=>exact ⟨j+1,D*10+d,by omega,by go_num,by go_num,by omega,Aside.intro HN.out,rfl⟩
        · have hlt2 : -(D:Int) < q:=by omega
          have hm:=Mf (s.data.toList.drop (j+1)) (D*10+d);rw [HN] at hm;have hr:Hid (F8 s.data.toList=false):=Hd (by rw [HB.out];exact decide_eq_false (by omega));clear hm hb HN q1 q2 q3 q4;go_wp2_with fail
          go_ret2
          exact ⟨⟨_,by rw [hr.out];rfl,fun h=>by rw [hr.out] at h;cases h⟩,rfl⟩
theorem Yd0 {k:Int} {s:ByteArray} {t:Tok} (r:List Tok) (h:t.1 ≠ k):atB k s (t :: r)=false:=by
 unfold atB;simp [h]
theorem Yaz (fx:Bool) (d:Nat) {t:Tok} (r:List Tok) (h:t.1 ≠ 1):Im fx d (t :: r)=Zzj (t :: r):=by
 rw [Wn];unfold ifR;rw [if_neg (by rw [Yd0 r h];simp),if_neg (by rw [Yd0 r h];simp)]
 cases fx
 · rw [if_neg (by simp)]
   unfold Ypf ifR;rw [if_neg (by rw [Yd0 r h];simp)]
 · rw [if_pos rfl]
theorem Yoa {t:Tok} {k n:Int} {s:ByteArray} (r:List Tok) (h:Zv t=some (k,n,s)):Zzj (t :: r)=.ok (.mk k n s .nil .nil,r):=by
 show (match Zv t with|none=>(.error 2:Except Int (VT × List Tok))|some (k,n,s)=>.ok (.mk k n s .nil .nil,r))=_;rw [h]
theorem Yet (fx:Bool) (d:Nat) {t:Tok} {k n:Int} {s:ByteArray} (r:List Tok) (h1:t.1 ≠ 1) (h:Zv t=some (k,n,s)):Im fx d (t :: r)=.ok (.mk k n s .nil .nil,r):=by
 rw [Yaz fx d r h1,Yoa r h]
variable {nT:Nat}
abbrev vaZ:List Value:=[.int .i64 0,.int .i64 0,.string ⟨#[]⟩,.slice none 0 0,.slice none 0 0]
def Wb (nT:Nat) (r d:Nat) (ts:List Tok) (k n:Int) (s:ByteArray) (w:World) (e:Ending) (w':World):Prop:=e=.returned (.agg #[.int .i64 k,.int .i64 n,.string s,.slice none 0 0,.slice none 0 0])∧RP nT w' r d (.ok ts)∧Z0 r w w'
theorem Yo4 (fx:Bool) (d r:Nat) (tx:ByteArray) (ts:List Tok) (w:World) (hs:tx.size≤9000) (hk:Jf tx.data.toList=3) (hf:Xt (Aj tx.data.toList)=true) (h:RP nT w r d (.ok ((3,tx) :: ts))):Calls Tryz.prog 98 #[.pointer (some ⟨r,0,none⟩),.bool fx] w (Wb nT r d ts 2 (Aj tx.data.toList) ⟨#[]⟩ w):=by
 have K0:=Hd (Q0.start h #[.int .i64 0,.int .i64 0,.string ⟨#[]⟩,.slice none 0 0,.slice none 0 0] 94);have HP:Hid (Calls Tryz.prog 12 #[.pointer (some ⟨r,0,none⟩)] (w.alloc (.cells #[.int .i64 0,.int .i64 0,.string ⟨#[]⟩,.slice none 0 0,.slice none 0 0] 94)) fun e w'=>e=.returned (.agg #[.int .i64 3,.string tx])∧Below (w.alloc (.cells #[.int .i64 0,.int .i64 0,.string ⟨#[]⟩,.slice none 0 0,.slice none 0 0] 94)).heap.size (w.alloc (.cells #[.int .i64 0,.int .i64 0,.string ⟨#[]⟩,.slice none 0 0,.slice none 0 0] 94)) w'):=Hd (Lz r d _ _ K0.out.rd);clear h
 go_enter Tryz.func98,Tryz.ntmps98
 go_wp2_with fail
 refine HP.out.mono ?_;rintro e w1 ⟨rfl,hb1⟩;have K1:=Hd (K0.out.next (K0.out.rd.below hb1) (Z0.of_below hb1));have K2:=Hd (Q1.make K1.out #[.int .i64 3,.string tx] 45);obtain ⟨A,n,c,p,dd,x0,h0,h1,h2⟩:=K2.out.rd.cells;have K3:=Hd (K2.out.next (K2.out.rd.advance h0) Z0.set);obtain ⟨c0,c1,c2,c3,cz⟩:=Zh h0;have z1:=cz 1;have hne:=Nat.ne_of_lt K2.out.rb;obtain ⟨y0,y1,yz⟩:=ptc K3.out.loc;obtain ⟨q0,q1,q2,q3,q4,qz⟩:=gvc K3.out.res;have qf0:=qz 0;have qf1:=qz 1;have qf2:=qz 2;have qf3:=qz 3;have qf4:=qz 4;clear hb1 cz yz qz h0 h2;have HI:=fun wx=>Hd (P4 tx wx hs);go_wp2_with fail
 refine (HI _).out.mono ?_;rintro e w4 ⟨⟨z,rfl,hz⟩,rfl⟩;rw [Pa hk,hf] at hz ⊢;rw [Zzt hk] at hz;obtain rfl:=hz rfl;have K4:=K3;clear q0 q1 q2 q3 q4 qf0 qf1 qf2 qf3 qf4;go_wp2_with fail
 refine (Yhc _ _).mono ?_;rintro e w5 ⟨rfl,hb5⟩;have K5:=Hd (K4.out.next (K4.out.rd.below hb5) (Z0.of_below hb5));obtain ⟨q0,q1,q2,q3,q4,qz⟩:=gvc K5.out.res;have qf0:=qz 0;have qf1:=qz 1;have qf2:=qz 2;have qf3:=qz 3;have qf4:=qz 4;clear hb5 qz;go_wp2_with fail
 have F:=K5.out.fin (ys:=vaZ) [.int .i64 (2),.int .i64 ((Aj tx.data.toList)),.string ⟨#[]⟩,.slice none 0 0,.slice none 0 0] rfl;refine Y6 (cs:=[.int .i64 (2),.int .i64 ((Aj tx.data.toList)),.string ⟨#[]⟩,.slice none 0 0,.slice none 0 0]) rfl rfl rfl F.1 Tryz.underlying94 ⟨_,rfl⟩ (by kernel_rfl) ?_;exact ⟨rfl,F.2.1,F.2.2⟩
theorem Yon (fx:Bool) (d r:Nat) (tx:ByteArray) (ts:List Tok) (w:World) (hs:tx.size≤9000) (hk:Jf tx.data.toList=3) (hf:Xt (Aj tx.data.toList)=false) (h:RP nT w r d (.ok ((3,tx) :: ts))):Calls Tryz.prog 98 #[.pointer (some ⟨r,0,none⟩),.bool fx] w (Wb nT r d ts 3 0 tx w):=by
 have K0:=Hd (Q0.start h #[.int .i64 0,.int .i64 0,.string ⟨#[]⟩,.slice none 0 0,.slice none 0 0] 94);have HP:Hid (Calls Tryz.prog 12 #[.pointer (some ⟨r,0,none⟩)] (w.alloc (.cells #[.int .i64 0,.int .i64 0,.string ⟨#[]⟩,.slice none 0 0,.slice none 0 0] 94)) fun e w'=>e=.returned (.agg #[.int .i64 3,.string tx])∧Below (w.alloc (.cells #[.int .i64 0,.int .i64 0,.string ⟨#[]⟩,.slice none 0 0,.slice none 0 0] 94)).heap.size (w.alloc (.cells #[.int .i64 0,.int .i64 0,.string ⟨#[]⟩,.slice none 0 0,.slice none 0 0] 94)) w'):=Hd (Lz r d _ _ K0.out.rd);clear h
 go_enter Tryz.func98,Tryz.ntmps98
 go_wp2_with fail
 refine HP.out.mono ?_;rintro e w1 ⟨rfl,hb1⟩;have K1:=Hd (K0.out.next (K0.out.rd.below hb1) (Z0.of_below hb1));have K2:=Hd (Q1.make K1.out #[.int .i64 3,.string tx] 45);obtain ⟨A,n,c,p,dd,x0,h0,h1,h2⟩:=K2.out.rd.cells;have K3:=Hd (K2.out.next (K2.out.rd.advance h0) Z0.set);obtain ⟨c0,c1,c2,c3,cz⟩:=Zh h0;have z1:=cz 1;have hne:=Nat.ne_of_lt K2.out.rb;obtain ⟨y0,y1,yz⟩:=ptc K3.out.loc;obtain ⟨q0,q1,q2,q3,q4,qz⟩:=gvc K3.out.res;have qf0:=qz 0;have qf1:=qz 1;have qf2:=qz 2;have qf3:=qz 3;have qf4:=qz 4;clear hb1 cz yz qz h0 h2;have HI:=fun wx=>Hd (P4 tx wx hs);go_wp2_with fail
 refine (HI _).out.mono ?_;rintro e w4 ⟨⟨z,rfl,hz⟩,rfl⟩;rw [Pa hk,hf];clear hz;go_wp2_with fail
 have F:=K3.out.fin (ys:=vaZ) [.int .i64 (3),.int .i64 (0),.string tx,.slice none 0 0,.slice none 0 0] rfl;refine Y6 (cs:=[.int .i64 (3),.int .i64 (0),.string tx,.slice none 0 0,.slice none 0 0]) rfl rfl rfl F.1 Tryz.underlying94 ⟨_,rfl⟩ (by kernel_rfl) ?_;exact ⟨rfl,F.2.1,F.2.2⟩
theorem Yjn (fx:Bool) (d r:Nat) (tx:ByteArray) (ts:List Tok) (w:World)  (h:RP nT w r d (.ok ((4,tx) :: ts))):Calls Tryz.prog 98 #[.pointer (some ⟨r,0,none⟩),.bool fx] w (Wb nT r d ts 3 0 tx w):=by
 have K0:=Hd (Q0.start h #[.int .i64 0,.int .i64 0,.string ⟨#[]⟩,.slice none 0 0,.slice none 0 0] 94);have HP:Hid (Calls Tryz.prog 12 #[.pointer (some ⟨r,0,none⟩)] (w.alloc (.cells #[.int .i64 0,.int .i64 0,.string ⟨#[]⟩,.slice none 0 0,.slice none 0 0] 94)) fun e w'=>e=.returned (.agg #[.int .i64 4,.string tx])∧Below (w.alloc (.cells #[.int .i64 0,.int .i64 0,.string ⟨#[]⟩,.slice none 0 0,.slice none 0 0] 94)).heap.size (w.alloc (.cells #[.int .i64 0,.int .i64 0,.string ⟨#[]⟩,.slice none 0 0,.slice none 0 0] 94)) w'):=Hd (Lz r d _ _ K0.out.rd);clear h
 go_enter Tryz.func98,Tryz.ntmps98
 go_wp2_with fail
 refine HP.out.mono ?_;rintro e w1 ⟨rfl,hb1⟩;have K1:=Hd (K0.out.next (K0.out.rd.below hb1) (Z0.of_below hb1));have K2:=Hd (Q1.make K1.out #[.int .i64 4,.string tx] 45);obtain ⟨A,n,c,p,dd,x0,h0,h1,h2⟩:=K2.out.rd.cells;have K3:=Hd (K2.out.next (K2.out.rd.advance h0) Z0.set);obtain ⟨c0,c1,c2,c3,cz⟩:=Zh h0;have z1:=cz 1;have hne:=Nat.ne_of_lt K2.out.rb;obtain ⟨y0,y1,yz⟩:=ptc K3.out.loc;obtain ⟨q0,q1,q2,q3,q4,qz⟩:=gvc K3.out.res;have qf0:=qz 0;have qf1:=qz 1;have qf2:=qz 2;have qf3:=qz 3;have qf4:=qz 4;clear hb1 cz yz qz h0 h2;go_wp2_with fail
 have F:=K3.out.fin (ys:=vaZ) [.int .i64 (3),.int .i64 (0),.string tx,.slice none 0 0,.slice none 0 0] rfl;refine Y6 (cs:=[.int .i64 (3),.int .i64 (0),.string tx,.slice none 0 0,.slice none 0 0]) rfl rfl rfl F.1 Tryz.underlying94 ⟨_,rfl⟩ (by kernel_rfl) ?_;exact ⟨rfl,F.2.1,F.2.2⟩
theorem Yir (fx:Bool) (d r:Nat) (tx:ByteArray) (ts:List Tok) (w:World)  (h:RP nT w r d (.ok ((5,tx) :: ts))):Calls Tryz.prog 98 #[.pointer (some ⟨r,0,none⟩),.bool fx] w (Wb nT r d ts 4 0 tx w):=by
 have K0:=Hd (Q0.start h #[.int .i64 0,.int .i64 0,.string ⟨#[]⟩,.slice none 0 0,.slice none 0 0] 94);have HP:Hid (Calls Tryz.prog 12 #[.pointer (some ⟨r,0,none⟩)] (w.alloc (.cells #[.int .i64 0,.int .i64 0,.string ⟨#[]⟩,.slice none 0 0,.slice none 0 0] 94)) fun e w'=>e=.returned (.agg #[.int .i64 5,.string tx])∧Below (w.alloc (.cells #[.int .i64 0,.int .i64 0,.string ⟨#[]⟩,.slice none 0 0,.slice none 0 0] 94)).heap.size (w.alloc (.cells #[.int .i64 0,.int .i64 0,.string ⟨#[]⟩,.slice none 0 0,.slice none 0 0] 94)) w'):=Hd (Lz r d _ _ K0.out.rd);clear h
 go_enter Tryz.func98,Tryz.ntmps98
 go_wp2_with fail
 refine HP.out.mono ?_;rintro e w1 ⟨rfl,hb1⟩;have K1:=Hd (K0.out.next (K0.out.rd.below hb1) (Z0.of_below hb1));have K2:=Hd (Q1.make K1.out #[.int .i64 5,.string tx] 45);obtain ⟨A,n,c,p,dd,x0,h0,h1,h2⟩:=K2.out.rd.cells;have K3:=Hd (K2.out.next (K2.out.rd.advance h0) Z0.set);obtain ⟨c0,c1,c2,c3,cz⟩:=Zh h0;have z1:=cz 1;have hne:=Nat.ne_of_lt K2.out.rb;obtain ⟨y0,y1,yz⟩:=ptc K3.out.loc;obtain ⟨q0,q1,q2,q3,q4,qz⟩:=gvc K3.out.res;have qf0:=qz 0;have qf1:=qz 1;have qf2:=qz 2;have qf3:=qz 3;have qf4:=qz 4;clear hb1 cz yz qz h0 h2;go_wp2_with fail
 have K4:=K3;clear q0 q1 q2 q3 q4 qf0 qf1 qf2 qf3 qf4;refine (Yce _ _).mono ?_;rintro e w5 ⟨rfl,hb5⟩;have K5:=Hd (K4.out.next (K4.out.rd.below hb5) (Z0.of_below hb5));obtain ⟨q0,q1,q2,q3,q4,qz⟩:=gvc K5.out.res;have qf0:=qz 0;have qf1:=qz 1;have qf2:=qz 2;have qf3:=qz 3;have qf4:=qz 4;clear hb5 qz;go_wp2_with fail
 have F:=K5.out.fin (ys:=vaZ) [.int .i64 (4),.int .i64 (0),.string tx,.slice none 0 0,.slice none 0 0] rfl;refine Y6 (cs:=[.int .i64 (4),.int .i64 (0),.string tx,.slice none 0 0,.slice none 0 0]) rfl rfl rfl F.1 Tryz.underlying94 ⟨_,rfl⟩ (by kernel_rfl) ?_;exact ⟨rfl,F.2.1,F.2.2⟩
theorem Ymy (fx:Bool) (d r:Nat) (tx:ByteArray) (ts:List Tok) (w:World) (e1:(tx.toList == [110,117,108,108])=true) (h:RP nT w r d (.ok ((2,tx) :: ts))):Calls Tryz.prog 98 #[.pointer (some ⟨r,0,none⟩),.bool fx] w (Wb nT r d ts 0 0 ⟨#[]⟩ w):=by
 have K0:=Hd (Q0.start h #[.int .i64 0,.int .i64 0,.string ⟨#[]⟩,.slice none 0 0,.slice none 0 0] 94);have HP:Hid (Calls Tryz.prog 12 #[.pointer (some ⟨r,0,none⟩)] (w.alloc (.cells #[.int .i64 0,.int .i64 0,.string ⟨#[]⟩,.slice none 0 0,.slice none 0 0] 94)) fun e w'=>e=.returned (.agg #[.int .i64 2,.string tx])∧Below (w.alloc (.cells #[.int .i64 0,.int .i64 0,.string ⟨#[]⟩,.slice none 0 0,.slice none 0 0] 94)).heap.size (w.alloc (.cells #[.int .i64 0,.int .i64 0,.string ⟨#[]⟩,.slice none 0 0,.slice none 0 0] 94)) w'):=Hd (Lz r d _ _ K0.out.rd);clear h
 go_enter Tryz.func98,Tryz.ntmps98
 go_wp2_with fail
 refine HP.out.mono ?_;rintro e w1 ⟨rfl,hb1⟩;have K1:=Hd (K0.out.next (K0.out.rd.below hb1) (Z0.of_below hb1));have K2:=Hd (Q1.make K1.out #[.int .i64 2,.string tx] 45);obtain ⟨A,n,c,p,dd,x0,h0,h1,h2⟩:=K2.out.rd.cells;have K3:=Hd (K2.out.next (K2.out.rd.advance h0) Z0.set);obtain ⟨c0,c1,c2,c3,cz⟩:=Zh h0;have z1:=cz 1;have hne:=Nat.ne_of_lt K2.out.rb;obtain ⟨y0,y1,yz⟩:=ptc K3.out.loc;obtain ⟨q0,q1,q2,q3,q4,qz⟩:=gvc K3.out.res;have qf0:=qz 0;have qf1:=qz 1;have qf2:=qz 2;have qf3:=qz 3;have qf4:=qz 4;clear hb1 cz yz qz h0 h2;go_wp2_with fail
 have F:=K3.out.fin (ys:=vaZ) [.int .i64 (0),.int .i64 (0),.string ⟨#[]⟩,.slice none 0 0,.slice none 0 0] rfl;refine Y6 (cs:=[.int .i64 (0),.int .i64 (0),.string ⟨#[]⟩,.slice none 0 0,.slice none 0 0]) rfl rfl rfl F.1 Tryz.underlying94 ⟨_,rfl⟩ (by kernel_rfl) ?_;exact ⟨rfl,F.2.1,F.2.2⟩
theorem Ykr (fx:Bool) (d r:Nat) (tx:ByteArray) (ts:List Tok) (w:World) (e1:(tx.toList == [110,117,108,108])=false) (e2:(tx.toList == [116,114,117,101])=true) (h:RP nT w r d (.ok ((2,tx) :: ts))):Calls Tryz.prog 98 #[.pointer (some ⟨r,0,none⟩),.bool fx] w (Wb nT r d ts 1 1 ⟨#[]⟩ w):=by
 have K0:=Hd (Q0.start h #[.int .i64 0,.int .i64 0,.string ⟨#[]⟩,.slice none 0 0,.slice none 0 0] 94);have HP:Hid (Calls Tryz.prog 12 #[.pointer (some ⟨r,0,none⟩)] (w.alloc (.cells #[.int .i64 0,.int .i64 0,.string ⟨#[]⟩,.slice none 0 0,.slice none 0 0] 94)) fun e w'=>e=.returned (.agg #[.int .i64 2,.string tx])∧Below (w.alloc (.cells #[.int .i64 0,.int .i64 0,.string ⟨#[]⟩,.slice none 0 0,.slice none 0 0] 94)).heap.size (w.alloc (.cells #[.int .i64 0,.int .i64 0,.string ⟨#[]⟩,.slice none 0 0,.slice none 0 0] 94)) w'):=Hd (Lz r d _ _ K0.out.rd);clear h
 go_enter Tryz.func98,Tryz.ntmps98
 go_wp2_with fail
 refine HP.out.mono ?_;rintro e w1 ⟨rfl,hb1⟩;have K1:=Hd (K0.out.next (K0.out.rd.below hb1) (Z0.of_below hb1));have K2:=Hd (Q1.make K1.out #[.int .i64 2,.string tx] 45);obtain ⟨A,n,c,p,dd,x0,h0,h1,h2⟩:=K2.out.rd.cells;have K3:=Hd (K2.out.next (K2.out.rd.advance h0) Z0.set);obtain ⟨c0,c1,c2,c3,cz⟩:=Zh h0;have z1:=cz 1;have hne:=Nat.ne_of_lt K2.out.rb;obtain ⟨y0,y1,yz⟩:=ptc K3.out.loc;obtain ⟨q0,q1,q2,q3,q4,qz⟩:=gvc K3.out.res;have qf0:=qz 0;have qf1:=qz 1;have qf2:=qz 2;have qf3:=qz 3;have qf4:=qz 4;clear hb1 cz yz qz h0 h2;go_wp2_with fail
 have F:=K3.out.fin (ys:=vaZ) [.int .i64 (1),.int .i64 (1),.string ⟨#[]⟩,.slice none 0 0,.slice none 0 0] rfl;refine Y6 (cs:=[.int .i64 (1),.int .i64 (1),.string ⟨#[]⟩,.slice none 0 0,.slice none 0 0]) rfl rfl rfl F.1 Tryz.underlying94 ⟨_,rfl⟩ (by kernel_rfl) ?_;exact ⟨rfl,F.2.1,F.2.2⟩
theorem Yhd (fx:Bool) (d r:Nat) (tx:ByteArray) (ts:List Tok) (w:World) (e1:(tx.toList == [110,117,108,108])=false) (e2:(tx.toList == [116,114,117,101])=false) (e3:(tx.toList == [102,97,108,115,101])=true) (h:RP nT w r d (.ok ((2,tx) :: ts))):Calls Tryz.prog 98 #[.pointer (some ⟨r,0,none⟩),.bool fx] w (Wb nT r d ts 1 0 ⟨#[]⟩ w):=by
 have K0:=Hd (Q0.start h #[.int .i64 0,.int .i64 0,.string ⟨#[]⟩,.slice none 0 0,.slice none 0 0] 94);have HP:Hid (Calls Tryz.prog 12 #[.pointer (some ⟨r,0,none⟩)] (w.alloc (.cells #[.int .i64 0,.int .i64 0,.string ⟨#[]⟩,.slice none 0 0,.slice none 0 0] 94)) fun e w'=>e=.returned (.agg #[.int .i64 2,.string tx])∧Below (w.alloc (.cells #[.int .i64 0,.int .i64 0,.string ⟨#[]⟩,.slice none 0 0,.slice none 0 0] 94)).heap.size (w.alloc (.cells #[.int .i64 0,.int .i64 0,.string ⟨#[]⟩,.slice none 0 0,.slice none 0 0] 94)) w'):=Hd (Lz r d _ _ K0.out.rd);clear h
 go_enter Tryz.func98,Tryz.ntmps98
 go_wp2_with fail
 refine HP.out.mono ?_;rintro e w1 ⟨rfl,hb1⟩;have K1:=Hd (K0.out.next (K0.out.rd.below hb1) (Z0.of_below hb1));have K2:=Hd (Q1.make K1.out #[.int .i64 2,.string tx] 45);obtain ⟨A,n,c,p,dd,x0,h0,h1,h2⟩:=K2.out.rd.cells;have K3:=Hd (K2.out.next (K2.out.rd.advance h0) Z0.set);obtain ⟨c0,c1,c2,c3,cz⟩:=Zh h0;have z1:=cz 1;have hne:=Nat.ne_of_lt K2.out.rb;obtain ⟨y0,y1,yz⟩:=ptc K3.out.loc;obtain ⟨q0,q1,q2,q3,q4,qz⟩:=gvc K3.out.res;have qf0:=qz 0;have qf1:=qz 1;have qf2:=qz 2;have qf3:=qz 3;have qf4:=qz 4;clear hb1 cz yz qz h0 h2;go_wp2_with fail
 have F:=K3.out.fin (ys:=vaZ) [.int .i64 (1),.int .i64 (0),.string ⟨#[]⟩,.slice none 0 0,.slice none 0 0] rfl;refine Y6 (cs:=[.int .i64 (1),.int .i64 (0),.string ⟨#[]⟩,.slice none 0 0,.slice none 0 0]) rfl rfl rfl F.1 Tryz.underlying94 ⟨_,rfl⟩ (by kernel_rfl) ?_;exact ⟨rfl,F.2.1,F.2.2⟩
theorem Yl4 (fx:Bool) (d r:Nat) (tx:ByteArray) (ts:List Tok) (w:World) (e1:(tx.toList == [110,117,108,108])=false) (e2:(tx.toList == [116,114,117,101])=false) (e3:(tx.toList == [102,97,108,115,101])=false) (h:RP nT w r d (.ok ((2,tx) :: ts))):Calls Tryz.prog 98 #[.pointer (some ⟨r,0,none⟩),.bool fx] w (Wb nT r d ts 5 0 tx w):=by
 have K0:=Hd (Q0.start h #[.int .i64 0,.int .i64 0,.string ⟨#[]⟩,.slice none 0 0,.slice none 0 0] 94);have HP:Hid (Calls Tryz.prog 12 #[.pointer (some ⟨r,0,none⟩)] (w.alloc (.cells #[.int .i64 0,.int .i64 0,.string ⟨#[]⟩,.slice none 0 0,.slice none 0 0] 94)) fun e w'=>e=.returned (.agg #[.int .i64 2,.string tx])∧Below (w.alloc (.cells #[.int .i64 0,.int .i64 0,.string ⟨#[]⟩,.slice none 0 0,.slice none 0 0] 94)).heap.size (w.alloc (.cells #[.int .i64 0,.int .i64 0,.string ⟨#[]⟩,.slice none 0 0,.slice none 0 0] 94)) w'):=Hd (Lz r d _ _ K0.out.rd);clear h
 go_enter Tryz.func98,Tryz.ntmps98
 go_wp2_with fail
 refine HP.out.mono ?_;rintro e w1 ⟨rfl,hb1⟩;have K1:=Hd (K0.out.next (K0.out.rd.below hb1) (Z0.of_below hb1));have K2:=Hd (Q1.make K1.out #[.int .i64 2,.string tx] 45);obtain ⟨A,n,c,p,dd,x0,h0,h1,h2⟩:=K2.out.rd.cells;have K3:=Hd (K2.out.next (K2.out.rd.advance h0) Z0.set);obtain ⟨c0,c1,c2,c3,cz⟩:=Zh h0;have z1:=cz 1;have hne:=Nat.ne_of_lt K2.out.rb;obtain ⟨y0,y1,yz⟩:=ptc K3.out.loc;obtain ⟨q0,q1,q2,q3,q4,qz⟩:=gvc K3.out.res;have qf0:=qz 0;have qf1:=qz 1;have qf2:=qz 2;have qf3:=qz 3;have qf4:=qz 4;clear hb1 cz yz qz h0 h2;go_wp2_with fail
 have F:=K3.out.fin (ys:=vaZ) [.int .i64 (5),.int .i64 (0),.string tx,.slice none 0 0,.slice none 0 0] rfl;refine Y6 (cs:=[.int .i64 (5),.int .i64 (0),.string tx,.slice none 0 0,.slice none 0 0]) rfl rfl rfl F.1 Tryz.underlying94 ⟨_,rfl⟩ (by kernel_rfl) ?_;exact ⟨rfl,F.2.1,F.2.2⟩
end Go.Proofs.YtkmloefbkgcbkaaGreatDoor
