/- The document's own parts: run, index, numeral, Number. -/
import Derived.Test.YtpkmbhnikilihaaGreatDoorQr18
import Derived.Deep.CutRange
set_option maxRecDepth 100000
set_option maxHeartbeats 4000000
namespace Go.Proofs.YtpkmbhnikilihaaGreatDoor
open Go.RowKit
theorem Qh (s:ByteArray) (i:Nat) (w:World) (hs:s.size≤9000) (hi:i≤s.size):Calls Tryz.prog 239 #[.string s,.int .i64 (i:Int)] w fun e w'=>e=.returned (.int .i64 (Xe (s.data.toList.drop i)))∧w=w':=by
 go_enter Tryz.func239,Tryz.ntmps239
 go_wp2
 go_loopg [5] (s.size - i) (fun g n wx=>∃ k:Nat,i+k+g=s.size∧n=.int .i64 k∧Aside (Xe (s.data.toList.drop i)=k+Xe (s.data.toList.drop (i+k)))∧w=wx)
 case atStart=>exact ⟨0,by omega,rfl,Aside.intro (by simp),rfl⟩
 case round =>
  obtain ⟨k,hk,rfl,HR,rfl⟩:=hrel
  obtain ⟨E,hE⟩:∃ E:Nat,i+k=E:=⟨_,rfl⟩
  have hik:(i:Int)+(k:Int)=(E:Int):=by omega
  rw [hE] at HR
  by_cases hlt:E < s.size
  · have hlt':(E:Int) < (s.size:Int):=by omega
    have hE0:(0:Int)≤(E:Int):=by omega
    have hd:=Z9 s E hlt
    cases c:Qt (s[E].toNat:Int)
    · have hr:Hid (Xe (s.data.toList.drop i)=k):=Hd (by
       rw [HR.out,Ycn (by rw [hd];exact c)];rfl)
      have HD:=Hd (Uu (s[E].toNat:Int) w)
      rw [c] at HD
      clear HR hd c hE
      go_wp2_with fail
      refine HD.out.mono ?_
      rintro e w1 ⟨rfl,rfl⟩
      go_wp2_with fail
      go_ret
      exact ⟨by rw [hr.out];rfl,rfl⟩
    · have hr:Hid (Xe (s.data.toList.drop i)=(k+1:Nat)+Xe (s.data.toList.drop (i+(k+1)))):=Hd (by
       rw [HR.out,hd,Qa c,show i+(k+1)=E+1 by omega];omega)
      have HD:=Hd (Uu (s[E].toNat:Int) w)
      rw [c] at HD
      clear HR hd c
      go_wp2_with fail
      refine HD.out.mono ?_
      rintro e w1 ⟨rfl,rfl⟩
      go_wp2_with fail
      go_roundg (gk - 1)
      case measure=>omega
      case rel=>exact ⟨k+1,by omega,by go_num,Aside.intro hr.out,rfl⟩
  · have hlt' : ¬ (E:Int) < (s.size:Int):=by omega
    have hr:Hid (Xe (s.data.toList.drop i)=k):=Hd (by
      rw [HR.out,Yp s E (by omega)];rfl)
    clear HR hE
    go_wp2
    go_ret
    exact ⟨by rw [hr.out];rfl,rfl⟩
theorem Zkg {xs:List UInt8} {k:Nat} {b y:UInt8} (h:(xs.take k).contains b=false) (hk:xs[k]? = some y) (hy:(y == b)=false):(xs.take (k+1)).contains b=false:=by
 rw [List.take_add_one,hk]
 cases hc:(xs.take k++(some y).toList).contains b
 · rfl
 · rw [List.contains_iff_mem] at hc
   rcases List.mem_append.1 hc with h1|h1
   · rw [List.contains_iff_mem.2 h1] at h;cases h
   · simp at h1
     subst h1
     simp at hy
theorem Tq (b:UInt8) (w:World):Calls Tryz.prog 181 #[.string ⟨#[33,36,38,40,41,58,61,64,91,93,123,124,125]⟩,.int .u8 (b.toNat:Int)] w fun e w'=>∃ r:Int,e=.returned (.int .i64 r)∧decide (r ≥ 0)=Vc b∧w=w':=by
 obtain ⟨M,hM⟩:∃ M:ByteArray,(⟨#[33,36,38,40,41,58,61,64,91,93,123,124,125]⟩:ByteArray)=M:=⟨_,rfl⟩
 have hMs:M.size=13:=by rw [← hM];rfl
 have HMl:Hid (M.data.toList=[33,36,38,40,41,58,61,64,91,93,123,124,125]):=Hd (by rw [← hM])
 rw [hM]
 clear hM
 go_enter Tryz.func181,Tryz.ntmps181
 go_wp2
 go_loopg [5] 13 (fun g n wx=>∃ k:Nat,k+g=13∧n=.int .i64 k∧Aside ((M.data.toList.take k).contains b=false)∧w=wx)
 case atStart=>exact ⟨0,by omega,rfl,Aside.intro rfl,rfl⟩
 case round =>
  obtain ⟨k,hk,rfl,HR,rfl⟩:=hrel
  by_cases hlt:k < M.size
  · have hlt':(k:Int) < (M.size:Int):=by omega
    have hk0:(0:Int)≤(k:Int):=by omega
    have hg:Hid (M.data.toList[k]? = some M[k]):=Hd (by
      rw [List.getElem?_eq_getElem (by rw [Z6];exact hlt),Array.getElem_toList]
      rfl)
    cases c:(M[k] == b)
    · obtain ⟨a1,_⟩:=Ow c (b.toNat:Int) rfl
      have hr:Hid ((M.data.toList.take (k+1)).contains b=false):=Hd (by
       exact Zkg HR.out hg.out c)
      clear HR c hg
      go_wp2
      go_roundg (gk - 1)
      case measure=>omega
      case rel=>exact ⟨k+1,by omega,by go_num,Aside.intro hr.out,rfl⟩
    · obtain ⟨a1,_⟩:=On c (b.toNat:Int) rfl
      have hr:Hid (decide ((k:Int) ≥ 0)=Vc b):=Hd (by
       have:Vc b=true:=by
        unfold Vc
        rw [← HMl.out]
        have hb:M[k]=b:=by simpa using c
        rw [← hb]
        exact List.contains_iff_mem.2 (List.mem_of_getElem? hg.out)
       rw [this]
       simp)
      clear HR c hg
      go_wp2
      go_ret
      exact ⟨_,rfl,hr.out,rfl⟩
  · have hlt' : ¬ (k:Int) < (M.size:Int):=by omega
    have hr:Hid (decide ((-1:Int) ≥ 0)=Vc b):=Hd (by
      have h:=HR.out
      rw [List.take_of_length_le (by rw [Z6];omega),HMl.out] at h
      unfold Vc
      rw [h]
      rfl)
    clear HR
    go_wp2
    go_ret
    exact ⟨_,rfl,hr.out,rfl⟩
theorem Zzd (s:ByteArray):(s.size=0∧Zm s.data.toList=0)∨∃ h:0 < s.size,Zm s.data.toList=if s[0] == 45 then 1 else 0:=by
 rcases Nat.eq_zero_or_pos s.size with h|h
 · exact .inl ⟨h,by rw [J9 h];rfl⟩
 · exact .inr ⟨h,by rw [Vi s h];rfl⟩
theorem Yfl (s:ByteArray) (m:Nat) (h:m < s.size):Y4 (s.data.toList.drop m)=if s[m] == 48 then 1 else Xe (s.data.toList.drop m):=by
 rw [Z9 s m h];rfl
theorem Zxe (s:ByteArray) (K:Nat):(s.size≤K∧Vp (s.data.toList.drop K)=0)∨∃ h:K < s.size,Vp (s.data.toList.drop K)=if s[K] == 46 then (if Xe (s.data.toList.drop (K+1))=0 then 0 else 1+Xe (s.data.toList.drop (K+1))) else 0:=by
 rcases Nat.lt_or_ge K s.size with h|h
 · exact .inr ⟨h,by rw [Z9 s K h];rfl⟩
 · exact .inl ⟨h,by rw [Yp s K h];rfl⟩
theorem Zv3 (s:ByteArray) (K:Nat):(s.size≤K∧Js (s.data.toList.drop K)=0)∨∃ h:K < s.size,Js (s.data.toList.drop K)=if s[K] == 101 || s[K] == 69 then (if Xe (s.data.toList.drop (K+1+Xo (s.data.toList.drop (K+1))))=0 then 0 else 1+Xo (s.data.toList.drop (K+1))+Xe (s.data.toList.drop (K+1+Xo (s.data.toList.drop (K+1))))) else 0:=by
 rcases Nat.lt_or_ge K s.size with h|h
 · exact .inr ⟨h,by rw [Z9 s K h];simp only [Js,List.drop_drop]⟩
 · exact .inl ⟨h,by rw [Yp s K h];rfl⟩
theorem Zvw (s:ByteArray) (K:Nat):(s.size≤K∧Xo (s.data.toList.drop K)=0)∨∃ h:K < s.size,Xo (s.data.toList.drop K)=if s[K] == 43 || s[K] == 45 then 1 else 0:=by
 rcases Nat.lt_or_ge K s.size with h|h
 · exact .inr ⟨h,by rw [Z9 s K h];rfl⟩
 · exact .inl ⟨h,by rw [Yp s K h];rfl⟩
theorem Gw (s:ByteArray) (m:Nat) (h:m≤s.size):m+Xe (s.data.toList.drop m)≤s.size:=by
 have:=Vn (s.data.toList.drop m)
 rw [List.length_drop,Z6] at this
 omega
theorem Ycd {a b:Nat} {k j:Int} (h:a=b) (h2:k=j):Ending.returned (.tuple #[.int .i64 (a:Int),.int .i64 k])=.returned (.tuple #[.int .i64 (b:Int),.int .i64 j]):=by rw [h,h2]
theorem Sj (s:ByteArray) (w:World) (hs:s.size≤9000):Calls Tryz.prog 184 #[.string s] w fun e w'=>e=.returned (.tuple #[.int .i64 ((nmL s.data.toList).1:Int),.int .i64 (nmL s.data.toList).2])∧w=w':=by
 obtain ⟨m,hm⟩:∃ m,Zm s.data.toList=m:=⟨_,rfl⟩
 have hmc:=Zzd s
 rw [hm] at hmc
 have hms:m≤s.size:=by
  rcases hmc with ⟨_,h⟩|⟨h,h'⟩
  · omega
  · split at h'<;>omega
 obtain ⟨R,hR⟩:∃ R,Xe (s.data.toList.drop m)=R:=⟨_,rfl⟩
 have H1:=Hd (Qh s m w hs hms)
 have hRs:=Gw s m hms
 rw [hR] at H1 hRs
 have HMC:=Hd hmc
 have HM:=Hd hm
 have HR:=Hd hR
 clear hmc hm hR
 go_enter Tryz.func184,Tryz.ntmps184
 obtain ⟨b1,hb1⟩:∃ b1:Bool,(m=1)=(b1=true):=⟨decide (m=1),by simp⟩
 have hm1:m≤1:=by
  rcases HMC.out with ⟨_,h⟩|⟨h,h'⟩
  · omega
  · split at h'<;>omega
 go_upto_region 2 with (fail)
 go_cut [17] (fun t wx=>t=.bool b1∧w=wx)
 case first =>
  rcases HMC.out with ⟨h0,hm0⟩|⟨h0,hm0⟩
  · have hlt : ¬ (0:Int) < (s.size:Int):=by omega
    obtain rfl:b1=false:=by cases b1<;>simp at hb1 ⊢;omega
    go_wp2
    go_meet
    exact ⟨rfl,rfl⟩
  · have hlt:(0:Int) < (s.size:Int):=by omega
    cases c:(s[0] == 45)
    · obtain ⟨a1,_⟩:=Ow c 45 rfl
      rw [c] at hm0
      obtain rfl:b1=false:=by cases b1<;>simp at hb1 hm0 ⊢;omega
      clear c hm0 hb1
      go_wp2
      go_meet
      exact ⟨rfl,rfl⟩
    · obtain ⟨a1,_⟩:=On c 45 rfl
      rw [c] at hm0
      obtain rfl:b1=true:=by cases b1<;>simp at hb1 hm0 ⊢;omega
      clear c hm0 hb1
      go_wp2
      go_meet
      exact ⟨rfl,rfl⟩
 case rest =>
  obtain ⟨rfl,rfl⟩:=hcut
  go_upto_if 17 with (fail)
  go_cut [4] (fun i wx=>i=.int .i64 m∧w=wx)
  case first =>
    cases b1
    · obtain rfl:m=0:=by simp at hb1;omega
      go_wp2
      go_meet
      exact ⟨rfl,rfl⟩
    · obtain rfl:m=1:=by simpa using hb1
      go_wp2
      go_meet
      exact ⟨rfl,rfl⟩
  case rest =>
    obtain ⟨rfl,rfl⟩:=hcut
    by_cases hR0:R=0
    · have hr:Hid (nmL s.data.toList=(0,0)):=Hd (by
       unfold nmL
       rw [HM.out,if_pos ((To _).2 (by rw [HR.out];exact hR0))])
      have e0:((R:Int) == 0)=true:=by simp;omega
      go_wp2_with fail
      refine H1.out.mono ?_
      rintro e w1 ⟨rfl,rfl⟩
      go_wp2_with fail
      go_ret2
      exact ⟨by rw [hr.out];rfl,rfl⟩
    · have e0:((R:Int) == 0)=false:=by simp;omega
      have hmlt:m < s.size:=by omega
      obtain ⟨W,hW⟩:∃ W,Y4 (s.data.toList.drop m)=W:=⟨_,rfl⟩
      have hWc:=Yfl s m hmlt
      rw [hW,HR.out] at hWc
      have hW0:W ≠ 0:=by split at hWc<;>omega
      have hWR:W≤R:=by split at hWc<;>omega
      obtain ⟨K,hK⟩:∃ K,m+W=K:=⟨_,rfl⟩
      have HW:=Hd hW
      have HWC:=Hd hWc
      clear hW hWc
      have hmlt':(m:Int) < (s.size:Int):=by omega
      have hm0:(0:Int)≤(m:Int):=by omega
      go_wp2_with fail
      refine H1.out.mono ?_
      rintro e w1 ⟨rfl,rfl⟩
      go_upto_if 28 with (fail)
      go_cut [5] (fun n wx=>n=.int .i64 W∧w=wx)
      case first =>
       cases c:(s[m] == 48)
       · obtain ⟨a1,_⟩:=Ow c 48 rfl
         have hc:=HWC.out
         rw [c] at hc
         obtain rfl:W=R:=by simpa using hc
         clear c hc
         go_wp2
         go_meet
         exact ⟨rfl,rfl⟩
       · obtain ⟨a1,_⟩:=On c 48 rfl
         have hc:=HWC.out
         rw [c] at hc
         obtain rfl:W=1:=by simpa using hc
         clear c hc
         go_wp2
         go_meet
         exact ⟨rfl,rfl⟩
      case rest =>
       obtain ⟨rfl,rfl⟩:=hcut
       have hKI:(m:Int)+(W:Int)=(K:Int):=by omega
       have hKs:K≤s.size:=by omega
       have hK0:(0:Int)≤(K:Int):=by omega
       obtain ⟨f,hf⟩:∃ f,Vp (s.data.toList.drop K)=f:=⟨_,rfl⟩
       have HFC:=Hd (Zxe s K)
       rw [hf] at HFC
       have HF:=Hd hf
       obtain ⟨P1,hP1⟩:∃ P1,K+1=P1:=⟨_,rfl⟩
       have hP1I:(K:Int)+1=(P1:Int):=by omega
       rw [hP1] at HFC
       obtain ⟨R2,hR2⟩:∃ R2,Xe (s.data.toList.drop P1)=R2:=⟨_,rfl⟩
       rw [hR2] at HFC
       have HRun2:=Hd (fun h=>Qh s P1 w hs h)
       rw [hR2] at HRun2
       have hR2s:=fun h=>Gw s P1 h
       rw [hR2] at hR2s
       obtain ⟨b2,hb2⟩:∃ b2:Bool,(f ≠ 0)=(b2=true):=⟨decide (f ≠ 0),by simp⟩
       have hf2:Hid (f ≠ 0→P1+R2≤s.size∧f=1+R2):=Hd (fun h=>by
         rcases HFC.out with ⟨_,h'⟩|⟨hlt,h'⟩
         · omega
         · have:=hR2s (by omega)
           split at h'
           · split at h'<;>omega
           · omega)
       clear hf hR2 hR2s
       go_upto_region 10 with (fail)
       go_cut [48] (fun t wx=>t=.bool b2∧w=wx)
       case first =>
         rcases HFC.out with ⟨hge,h'⟩|⟨hlt,h'⟩
         · have hlt' : ¬ (K:Int) < (s.size:Int):=by omega
           obtain rfl:b2=false:=by cases b2<;>simp at hb2 ⊢;omega
           go_wp2
           go_meet
           exact ⟨rfl,rfl⟩
         · have hlt':(K:Int) < (s.size:Int):=by omega
           cases c:(s[K] == 46)
           · obtain ⟨a1,_⟩:=Ow c 46 rfl
             rw [c] at h'
             obtain rfl:b2=false:=by cases b2<;>simp at hb2 h' ⊢;omega
             clear c h' hb2
             go_wp2
             go_meet
             exact ⟨rfl,rfl⟩
           · obtain ⟨a1,_⟩:=On c 46 rfl
             rw [c] at h'
             have HC:=Hd (HRun2.out (by omega))
             by_cases hz:R2=0
             · have hz' : ¬ (R2:Int) > 0:=by omega
               obtain rfl:b2=false:=by cases b2<;>simp [hz] at hb2 h' ⊢;omega
               clear c h' hb2
               go_wp2_with fail
               refine HC.out.mono ?_
               rintro e w1 ⟨rfl,rfl⟩
               go_wp2
               go_meet
               exact ⟨rfl,rfl⟩
             · have hz':(R2:Int) > 0:=by omega
               obtain rfl:b2=true:=by cases b2<;>simp [hz] at hb2 h' ⊢;omega
               clear c h' hb2
               go_wp2_with fail
               refine HC.out.mono ?_
               rintro e w1 ⟨rfl,rfl⟩
               go_wp2
               go_meet
               exact ⟨congrArg Value.bool (decide_eq_true (by omega)),rfl⟩
       case rest =>
         obtain ⟨rfl,rfl⟩:=hcut
         obtain ⟨K2,hK2⟩:∃ K2,K+f=K2:=⟨_,rfl⟩
         obtain ⟨kd,hkd⟩:∃ kd:Int,(if f=0 then (3:Int) else 4)=kd:=⟨_,rfl⟩
         go_upto_if 48 with (fail)
         go_cut [4,6] (fun i k wx=>i=.int .i64 K2∧k=.int .i64 kd∧w=wx)
         case first =>
           cases b2
           · have h0:f=0:=by simpa using hb2
             obtain rfl:K=K2:=by omega
             obtain rfl:3=kd:=by rw [← hkd,if_pos h0]
             go_wp2
             go_meet
             exact ⟨rfl,rfl,rfl⟩
           · have h0:f ≠ 0:=by simpa using hb2
             obtain ⟨g1,g2⟩:=hf2.out h0
             obtain rfl:4=kd:=by rw [← hkd,if_neg h0]
             have HC:=Hd (HRun2.out (by omega))
             have hsum:(P1:Int)+(R2:Int)=(K2:Int):=by omega
             go_wp2_with fail
             refine HC.out.mono ?_
             rintro e w1 ⟨rfl,rfl⟩
             go_wp2
             go_meet
             exact ⟨rfl,rfl,rfl⟩
         case rest =>
           obtain ⟨rfl,rfl,rfl⟩:=hcut
           have hK2s:K2≤s.size:=by
             by_cases h0:f=0
             · omega
             · have:=hf2.out h0;omega
           have hK20:(0:Int)≤(K2:Int):=by omega
           obtain ⟨x,hx⟩:∃ x,Js (s.data.toList.drop K2)=x:=⟨_,rfl⟩
           have hXC:=Zv3 s K2
           rw [hx] at hXC
           obtain ⟨Q,hQ⟩:∃ Q,K2+1=Q:=⟨_,rfl⟩
           have hQI:(K2:Int)+1=(Q:Int):=by omega
           rw [hQ] at hXC
           obtain ⟨sg,hsg⟩:∃ sg,Xo (s.data.toList.drop Q)=sg:=⟨_,rfl⟩
           have hSC:=Zvw s Q
           rw [hsg] at hXC hSC
           obtain ⟨T,hT⟩:∃ T,Q+sg=T:=⟨_,rfl⟩
           rw [hT] at hXC
           obtain ⟨R3,hR3⟩:∃ R3,Xe (s.data.toList.drop T)=R3:=⟨_,rfl⟩
           have HRun3:=Hd (fun h=>Qh s T w hs h)
           have hR3s:=fun h=>Gw s T h
           rw [hR3] at hXC HRun3 hR3s
           have HXC:=Hd hXC
           have HSC:=Hd hSC
           have hr:Hid (nmL s.data.toList=(K2+x,if f=0∧x=0 then 3 else 4)):=Hd (Mr HM.out HW.out hW0 hK HF.out hK2 hx rfl)
           have HKD:=Hd hkd
           obtain ⟨b3,hb3⟩:∃ b3:Bool,b3=(match s.data.toList.drop K2 with|[]=>false|b :: _=>b == 101 || b == 69):=⟨_,rfl⟩
           have H3T:Hid (b3=true→∃ h:K2 < s.size,(s[K2] == 101 || s[K2] == 69)=true):=Hd (fun h=>by
             rcases Nat.lt_or_ge K2 s.size with hl|hl
             · rw [Z9 s K2 hl] at hb3;exact ⟨hl,by rw [← h,hb3]⟩
             · rw [Yp s K2 hl] at hb3;rw [hb3] at h;cases h)
           have H3F:Hid (b3=false→x=0):=Hd (fun h=>by
             rcases hXC with ⟨_,h'⟩|⟨hl,h'⟩
             · exact h'
             · rw [Z9 s K2 hl] at hb3
               rw [h']
               have hb:(s[K2] == 101 || s[K2] == 69)=false:=by rw [← h,hb3]
               rw [hb];rfl)
           have H3C:Hid ((s.size≤K2∧b3=false)∨∃ h:K2 < s.size,b3=(s[K2] == 101 || s[K2] == 69)):=Hd (by
             rcases Nat.lt_or_ge K2 s.size with hl|hl
             · exact .inr ⟨hl,by rw [hb3,Z9 s K2 hl]⟩
             · exact .inl ⟨hl,by rw [hb3,Yp s K2 hl]⟩)
           clear hx hXC hsg hSC hR3 hkd hb3
           go_upto_region 12 with (fail)
           go_cut [71] (fun t wx=>t=.bool b3∧w=wx)
           case first =>
             rcases H3C.out with ⟨hge,h'⟩|⟨hlt,h'⟩
             · have hlt' : ¬ (K2:Int) < (s.size:Int):=by omega
               subst h'
               go_wp2
               go_meet
               exact ⟨rfl,rfl⟩
             · have hlt':(K2:Int) < (s.size:Int):=by omega
               cases c:(s[K2] == 101)
               · obtain ⟨a1,_⟩:=Ow c 101 rfl
                 cases c2:(s[K2] == 69)
                 · obtain ⟨a2,_⟩:=Ow c2 69 rfl
                   rw [c,c2] at h'
                   subst h'
                   clear c c2
                   go_wp2
                   go_meet
                   exact ⟨rfl,rfl⟩
                 · obtain ⟨a2,_⟩:=On c2 69 rfl
                   rw [c,c2] at h'
                   subst h'
                   clear c c2
                   go_wp2
                   go_meet
                   exact ⟨rfl,rfl⟩
               · obtain ⟨a1,_⟩:=On c 101 rfl
                 rw [c,Bool.true_or] at h'
                 subst h'
                 clear c
                 go_wp2
                 go_meet
                 exact ⟨rfl,rfl⟩
           case rest =>
             obtain ⟨rfl,rfl⟩:=hcut
             cases b3
             · have hx0:=H3F.out rfl
               go_wp2
               go_ret2
               refine ⟨?_,rfl⟩
               rw [hr.out]
               exact Ycd (by omega) (by rw [← HKD.out];simp [hx0])
             · obtain ⟨hlt,hbe⟩:=H3T.out rfl
               have HX:Hid (x=if R3=0 then 0 else 1+sg+R3):=Hd (by
                 rcases HXC.out with ⟨_,h'⟩|⟨_,h'⟩
                 · omega
                 · rw [h',hbe];rfl)
               have hsg1:sg≤1∧T≤s.size:=by
                 rcases HSC.out with ⟨_,h'⟩|⟨_,h'⟩
                 · omega
                 · split at h'<;>omega
               have hQ0:(0:Int)≤(Q:Int):=by omega
               obtain ⟨b4,hb4⟩:∃ b4:Bool,(sg=1)=(b4=true):=⟨decide (sg=1),by simp⟩
               clear hbe
               go_upto_region 14 with (fail)
               go_cut [89] (fun t wx=>t=.bool b4∧w=wx)
               case first =>
                 rcases HSC.out with ⟨hge,h'⟩|⟨hlt2,h'⟩
                 · have hlt' : ¬ (Q:Int) < (s.size:Int):=by omega
                   obtain rfl:b4=false:=by cases b4<;>simp at hb4 ⊢;omega
                   go_wp2
                   go_meet
                   exact ⟨rfl,rfl⟩
                 · have hlt':(Q:Int) < (s.size:Int):=by omega
                   cases c:(s[Q] == 43)
                   · obtain ⟨a1,_⟩:=Ow c 43 rfl
                     cases c2:(s[Q] == 45)
                     · obtain ⟨a2,_⟩:=Ow c2 45 rfl
                       rw [c,c2] at h'
                       obtain rfl:b4=false:=by cases b4<;>simp at hb4 h' ⊢;omega
                       clear c c2 h' hb4
                       go_wp2
                       go_meet
                       exact ⟨rfl,rfl⟩
                     · obtain ⟨a2,_⟩:=On c2 45 rfl
                       rw [c,c2] at h'
                       obtain rfl:b4=true:=by cases b4<;>simp at hb4 h' ⊢;omega
                       clear c c2 h' hb4
                       go_wp2
                       go_meet
                       exact ⟨rfl,rfl⟩
                   · obtain ⟨a1,_⟩:=On c 43 rfl
                     rw [c,Bool.true_or] at h'
                     obtain rfl:b4=true:=by cases b4<;>simp at hb4 h' ⊢;omega
                     clear c h' hb4
                     go_wp2
                     go_meet
                     exact ⟨rfl,rfl⟩
               case rest =>
                 obtain ⟨rfl,rfl⟩:=hcut
                 go_upto_if 89 with (fail)
                 go_cut [7] (fun k wx=>k=.int .i64 T∧w=wx)
                 case first =>
                   cases b4
                   · obtain rfl:Q=T:=by simp at hb4;omega
                     go_wp2
                     go_meet
                     exact ⟨rfl,rfl⟩
                   · have hTI:(Q:Int)+1=(T:Int):=by simp at hb4;omega
                     go_wp2
                     go_meet
                     exact ⟨rfl,rfl⟩
                 case rest =>
                   obtain ⟨rfl,rfl⟩:=hcut
                   have HC:=Hd (HRun3.out hsg1.2)
                   have hR3b:=hR3s hsg1.2
                   by_cases hz:R3=0
                   · have hz' : ¬ (R3:Int) > 0:=by omega
                     have hx0:x=0:=by have h:=HX.out;rw [if_pos hz] at h;exact h
                     go_wp2_with fail
                     refine HC.out.mono ?_
                     rintro e w1 ⟨rfl,rfl⟩
                     go_wp2_with fail
                     go_ret2
                     refine ⟨?_,rfl⟩
                     rw [hr.out]
                     exact Ycd (by omega) (by rw [← HKD.out];simp [hx0])
                   · have hz':(R3:Int) > 0:=by omega
                     have hx1:x=1+sg+R3:=by have h:=HX.out;rw [if_neg hz] at h;exact h
                     obtain ⟨N,hN⟩:∃ N,T+R3=N:=⟨_,rfl⟩
                     have hNI:(T:Int)+(R3:Int)=(N:Int):=by omega
                     go_wp2_with fail
                     refine HC.out.mono ?_
                     rintro e w1 ⟨rfl,rfl⟩
                     go_wp2_with fail
                     refine HC.out.mono ?_
                     rintro e w1 ⟨rfl,rfl⟩
                     go_wp2_with fail
                     go_ret2
                     refine ⟨?_,rfl⟩
                     rw [hr.out]
                     exact Ycd (by omega) (by rw [if_neg (by omega)])
theorem Ykc (s t:ByteArray) (i:Nat) (h:i+t.size≤s.size):((s.extract i (i+t.size)).toList == t.toList)=pre t.data.toList (s.data.toList.drop i):=by
 have h1:=Lib.hasPrefix_of_take (s.data.toList.drop i) t.data.toList
 have e:(s.extract i (i+t.size)).toList=(s.data.toList.drop i).take t.data.toList.length:=by
  rw [Lib.toList_data,Z6]
  simp [ByteArray.data_extract,Array.toList_extract,List.extract]
 have hl:t.data.toList.length≤(s.data.toList.drop i).length:=by
  rw [List.length_drop,Z6,Z6];omega
 rw [e,Lib.toList_data]
 simp only [hl,decide_true,Bool.true_and] at h1
 rw [h1]
 rfl
theorem Ybf {t l:List UInt8} (h:l.length < t.length):pre t l=false:=by
 cases hp:pre t l with
 | false=>rfl
 | true=>have:=Vk hp;omega
theorem I0 (s t:ByteArray) (i:Nat) (w:World) (hs:s.size≤9000) (ht:t.size≤9000) (hi:i≤s.size):Calls Tryz.prog 180 #[.string s,.int .i64 i,.string t] w fun e w'=>e=.returned (.bool (pre t.data.toList (s.data.toList.drop i)))∧w=w':=by
 have hi0:(0:Int)≤(i:Int):=by omega
 by_cases h:i+t.size≤s.size
 · have hp:=Ykc s t i h
   obtain ⟨E,hE⟩:∃ E,i+t.size=E:=⟨_,rfl⟩
   rw [hE] at hp
   have g1:(i:Int)+(t.size:Int)=(E:Int):=by omega
   have g2:(i:Int)≤(E:Int):=by omega
   have g3:(E:Int)≤(s.size:Int):=by omega
   have g4:decide ((i:Int)≤(s.size:Int) - (t.size:Int))=true:=by simp;omega
   obtain ⟨p,hpp⟩:∃ p,pre t.data.toList (s.data.toList.drop i)=p:=⟨_,rfl⟩
   rw [hpp] at hp ⊢
   clear hpp hE
   go_enter Tryz.func180,Tryz.ntmps180
   go_wp2
   go_ret
   exact ⟨rfl,rfl⟩
 · have hp:pre t.data.toList (s.data.toList.drop i)=false:=Ybf (by rw [List.length_drop,Z6,Z6];omega)
   rw [hp]
   have g4:decide ((i:Int)≤(s.size:Int) - (t.size:Int))=false:=by simp;omega
   clear hp
   go_enter Tryz.func180,Tryz.ntmps180
   go_wp2
   go_ret
   exact ⟨rfl,rfl⟩
def Oe:Nat→Int→List UInt8→Int
 | 0,v,_=>v
 | _+1,_,[]=>-1
 | n+1,v,b :: t=>if Ch b then Oe n (v*16+Ru b) t else -1
theorem Ye3:∀ b:UInt8,(97≤(b.toNat:Int)∧(b.toNat:Int)≤102)→Ch b=true∧Ru b=(b.toNat:Int) - 87:=Zw (by decide +kernel)
theorem Yl3:∀ b:UInt8,(65≤(b.toNat:Int)∧(b.toNat:Int)≤70)→Ch b=true∧Ru b=(b.toNat:Int) - 55:=Zw (by decide +kernel)
theorem Yix:∀ b:UInt8,¬ (48≤(b.toNat:Int)∧(b.toNat:Int)≤57)→¬ (97≤(b.toNat:Int)∧(b.toNat:Int)≤102)→¬ (65≤(b.toNat:Int)∧(b.toNat:Int)≤70)→Ch b=false:=Zw (by decide +kernel)
theorem Zz4 {c d:Int} (h0:0≤c) (h1:c < 134217728) (h2:0≤d) (h3:d < 16):bits .or .i64 (c*16) d=c*16+d:=by
 obtain ⟨a,rfl⟩:=Int.eq_ofNat_of_zero_le h0
 obtain ⟨b,rfl⟩:=Int.eq_ofNat_of_zero_le h2
 have e:((a:Int)*16)=((a*16:Nat):Int):=by omega
 rw [e]
 show IntKind.i64.wrap ((BitVec.ofInt 64 ((a*16:Nat):Int) ||| BitVec.ofInt 64 (b:Int)).toNat:Int)=_
 have h:=Nat.shiftLeft_add_eq_or_of_lt (b:=b) (i:=4) (by omega) a
 rw [BitVec.toNat_or,F7 _ (by omega),F7 b (by omega),show a*16=a <<< 4 from by rw [Nat.shiftLeft_eq],← h,IntKind.wrap_i64,Nat.shiftLeft_eq]
 omega
theorem Zv6 (s:ByteArray) (i:Nat) (w:World) (hs:s.size≤9000) (hi:i≤s.size):Calls Tryz.prog 236 #[.string s,.int .i64 i] w fun e w'=>e=.returned (.int .i64 (Oe 4 0 (s.data.toList.drop i)))∧w=w':=by
 have hi0:(0:Int)≤(i:Int):=by omega
 by_cases h4:i+4≤s.size
 · have g4 : ¬ (s.size:Int) - (i:Int) < 4:=by omega
   obtain ⟨R,hR⟩:∃ R,Oe 4 0 (s.data.toList.drop i)=R:=⟨_,rfl⟩
   rw [hR]
   obtain ⟨E,hE⟩:∃ E,i+4=E:=⟨_,rfl⟩
   have gE:(i:Int)+4=(E:Int):=by omega
   have HR:=Hd hR
   clear hR
   go_enter Tryz.func236,Tryz.ntmps236
   go_wp2
   go_loopg [5,6,7] 4 (fun g vv kv cv wx=>∃ (j:Nat) (v:Int),j+g=E∧i≤j∧g≤4∧vv=.int .i64 v∧0≤v∧v < 16777216∧(g=4→v=0)∧(g=3→v < 16)∧(g=2→v < 256)∧(g=1→v < 4096)∧kv=.int .i64 j∧Aside (Oe g v (s.data.toList.drop j)=R)∧w=wx)
   case atStart=>exact ⟨i,0,by omega,by omega,by omega,rfl,by omega,by omega,by omega,by omega,by omega,by omega,rfl,Aside.intro HR.out,rfl⟩
   case round =>
    obtain ⟨j,v,hj,hij,hg,rfl,hv0,hv1,hv4,hv3,hv2,hv1',rfl,H,rfl⟩:=hrel
    cases gk with
    | zero =>
      have hge : ¬ (j:Int) < (E:Int):=by omega
      have hr:Hid (v=R):=Hd H.out
      clear H
      go_wp2
      go_ret
      exact ⟨Jy hr.out,rfl⟩
    | succ g =>
      have hlt:j < s.size:=by omega
      have hlt1:(j:Int) < (s.size:Int):=by omega
      have hlt':(j:Int) < (E:Int):=by omega
      have hj0:(0:Int)≤(j:Int):=by omega
      have hvs:v < 4096:=by
        have:g=0∨g=1∨g=2∨g=3:=by omega
        rcases this with rfl|rfl|rfl|rfl
        · exact hv1' rfl
        · have:=hv2 rfl;omega
        · have:=hv3 rfl;omega
        · have:=hv4 rfl;omega
      rw [Z9 s j hlt] at H
      have hw:IntKind.i64.wrap (v*16)=v*16:=IntWalk.i64_in _ (by omega)
      by_cases d1:(48:Int)≤(s[j].toNat:Int)∧(s[j].toNat:Int)≤57
      · obtain ⟨hb,hI⟩:=Zyv s[j] d1
        have HN:=Hd H.out
        rw [Oe,if_pos hb,hI] at HN
        have HD:=fun w=>Hd (Uu (s[j].toNat:Int) w)
        rw [show Qt (s[j].toNat:Int)=true by unfold Qt;simpa using d1] at HD
        have u1:IntKind.u8.wrap ((s[j].toNat:Int) - 48)=(s[j].toNat:Int) - 48:=by rw [IntKind.wrap_u8];omega
        have u2:IntKind.i64.wrap ((s[j].toNat:Int) - 48)=(s[j].toNat:Int) - 48:=IntWalk.i64_in _ (by omega)
        have ho:=Zz4 (c:=v) (d:=(s[j].toNat:Int) - 48) hv0 (by omega) (by omega) (by omega)
        have nb:v*16+((s[j].toNat:Int) - 48)≤v*16+9:=by omega
        clear H hb hI
        go_wp2_with fail
        refine (HD _).out.mono ?_
        rintro e w1 ⟨rfl,rfl⟩
        go_wp2_with fail
        go_roundg g
        case measure=>omega
        case rel=>exact ⟨j+1,v*16+((s[j].toNat:Int) - 48),by omega,by omega,by omega,rfl,by omega,by omega,by omega,by intro h;have:=hv4 (by omega);omega,by intro h;have:=hv3 (by omega);omega,by intro h;have:=hv2 (by omega);omega,by go_num,Aside.intro HN.out,rfl⟩
      · have HD := fun w=>Hd (Uu (s[j].toNat:Int) w)
        rw [show Qt (s[j].toNat:Int)=false by unfold Qt;simpa using d1] at HD
        by_cases d2:(97:Int)≤(s[j].toNat:Int)∧(s[j].toNat:Int)≤102
        · obtain ⟨hb,hI⟩:=Ye3 s[j] d2
          have HN:=Hd H.out
          rw [Oe,if_pos hb,hI] at HN
          obtain ⟨d2a,d2b⟩:=d2
          have u1:IntKind.u8.wrap ((s[j].toNat:Int) - 97)=(s[j].toNat:Int) - 97:=by rw [IntKind.wrap_u8];omega
          have u3:IntKind.u8.wrap ((s[j].toNat:Int) - 97+10)=(s[j].toNat:Int) - 97+10:=by rw [IntKind.wrap_u8];omega
          have u2:IntKind.i64.wrap ((s[j].toNat:Int) - 97+10)=(s[j].toNat:Int) - 97+10:=IntWalk.i64_in _ (by omega)
          have ho:=Zz4 (c:=v) (d:=(s[j].toNat:Int) - 97+10) hv0 (by omega) (by omega) (by omega)
          have eq87:(s[j].toNat:Int) - 97+10=(s[j].toNat:Int) - 87:=by omega
          rw [← eq87] at HN
          clear H hb hI eq87
          go_wp2_with fail
          refine (HD _).out.mono ?_
          rintro e w1 ⟨rfl,rfl⟩
          go_wp2_with fail
          go_roundg g
          case measure=>omega
          case rel=>exact ⟨j+1,v*16+((s[j].toNat:Int) - 97+10),by omega,by omega,by omega,rfl,by omega,by omega,by omega,by intro h;have:=hv4 (by omega);omega,by intro h;have:=hv3 (by omega);omega,by intro h;have:=hv2 (by omega);omega,by go_num,Aside.intro HN.out,rfl⟩
        · have t2:((decide ((97:Int)≤(s[j].toNat:Int))) && decide ((s[j].toNat:Int)≤102))=false:=by rw [← Bool.decide_and];simpa using d2
          by_cases d3:(65:Int)≤(s[j].toNat:Int)∧(s[j].toNat:Int)≤70
          · obtain ⟨hb,hI⟩:=Yl3 s[j] d3
            have HN:=Hd H.out
            rw [Oe,if_pos hb,hI] at HN
            obtain ⟨d3a,d3b⟩:=d3
            have n97 : ¬ (97:Int)≤(s[j].toNat:Int):=by omega
            have u1:IntKind.u8.wrap ((s[j].toNat:Int) - 65)=(s[j].toNat:Int) - 65:=by rw [IntKind.wrap_u8];omega
            have u3:IntKind.u8.wrap ((s[j].toNat:Int) - 65+10)=(s[j].toNat:Int) - 65+10:=by rw [IntKind.wrap_u8];omega
            have u2:IntKind.i64.wrap ((s[j].toNat:Int) - 65+10)=(s[j].toNat:Int) - 65+10:=IntWalk.i64_in _ (by omega)
            have ho:=Zz4 (c:=v) (d:=(s[j].toNat:Int) - 65+10) hv0 (by omega) (by omega) (by omega)
            have eq55:(s[j].toNat:Int) - 65+10=(s[j].toNat:Int) - 55:=by omega
            rw [← eq55] at HN
            clear H hb hI eq55 t2
            go_wp2_with fail
            refine (HD _).out.mono ?_
            rintro e w1 ⟨rfl,rfl⟩
            go_wp2_with fail
            go_roundg g
            case measure=>omega
            case rel=>exact ⟨j+1,v*16+((s[j].toNat:Int) - 65+10),by omega,by omega,by omega,rfl,by omega,by omega,by omega,by intro h;have:=hv4 (by omega);omega,by intro h;have:=hv3 (by omega);omega,by intro h;have:=hv2 (by omega);omega,by go_num,Aside.intro HN.out,rfl⟩
          · have hb:=Yix s[j] d1 d2 d3
            have hr:Hid ((-1:Int)=R):=Hd (by have h:=H.out;rw [Oe,if_neg (by rw [hb];simp)] at h;exact h)
            clear H hb
            by_cases n97:(97:Int)≤(s[j].toNat:Int)
            · have n102 : ¬ (s[j].toNat:Int)≤102:=fun h=>d2 ⟨n97,h⟩
              have n65:(65:Int)≤(s[j].toNat:Int):=by omega
              have n70 : ¬ (s[j].toNat:Int)≤70:=by omega
              clear t2 d1 d2 d3
              go_wp2_with fail
              refine (HD _).out.mono ?_
              rintro e w1 ⟨rfl,rfl⟩
              go_wp2_with fail
              go_ret
              exact ⟨Jy hr.out,rfl⟩
            · by_cases n65:(65:Int)≤(s[j].toNat:Int)
              · have n70 : ¬ (s[j].toNat:Int)≤70:=fun h=>d3 ⟨n65,h⟩
                clear t2 d1 d2 d3
                go_wp2_with fail
                refine (HD _).out.mono ?_
                rintro e w1 ⟨rfl,rfl⟩
                go_wp2_with fail
                go_ret
                exact ⟨Jy hr.out,rfl⟩
              · clear t2 d1 d2 d3
                go_wp2_with fail
                refine (HD _).out.mono ?_
                rintro e w1 ⟨rfl,rfl⟩
                go_wp2_with fail
                go_ret
                exact ⟨Jy hr.out,rfl⟩
 · have hr:Oe 4 0 (s.data.toList.drop i) = -1:=by
    have hl:(s.data.toList.drop i).length < 4:=by rw [List.length_drop,Z6];omega
    have key:∀ (n:Nat) (v:Int) (l:List UInt8),l.length < n→Oe n v l = -1:=by
      intro n
      induction n with
      | zero=>intro v l h;omega
      | succ n ih =>
        intro v l h
        cases l with
        | nil=>rfl
        | cons b t =>
          rw [Oe]
          split
          · exact ih _ _ (by simp at h;omega)
          · rfl
    exact key 4 0 _ hl
   rw [hr]
   have g4:(s.size:Int) - (i:Int) < 4:=by omega
   clear hr
   go_enter Tryz.func236,Tryz.ntmps236
   go_wp2
   go_ret
   exact ⟨rfl,rfl⟩
theorem Dw {l:List UInt8} (hne:l ≠ []) (hg:Zi l=true):∃ z,dec l=(z,((Lib.encodeRune z).length:Int))∧okB z=true∧l=Lib.encodeRune z++l.drop (Lib.encodeRune z).length∧Zi (l.drop (Lib.encodeRune z).length)=true:=by
 rw [Jd] at hg
 by_cases h0:(dec l).2=0
 · rw [Lz hne h0] at hg;cases hg
 · have he:=Pc h0
   have hb:=Bg l
   obtain ⟨b0,b4,bl,c0,c1,ch⟩:=hb
   have hlen:(Lib.encodeRune (dec l).1).length=(dec l).2.toNat:=by
     rw [he,List.length_take];omega
   refine ⟨(dec l).1,?_,by simp [okB,c0,c1,ch],?_,?_⟩
   · rw [hlen,Int.toNat_of_nonneg b0]
   · rw [hlen,he,List.take_append_drop]
   · rw [Ux hne h0] at hg
     rw [hlen,Jd]
     cases hc:Jc (l.drop (dec l).2.toNat) with
     | none=>rw [hc] at hg;cases hg
     | some _=>rfl
theorem N7 {b:UInt8} {t:List UInt8} (h:Zi (b :: t)=true) (hb:b.toNat < 128):Zi t=true:=by
 obtain ⟨z,_,hz,hl,hg⟩:=Dw (by simp) h
 have hz':0≤z∧z≤1114111∧X3 z=false:=by simpa [okB] using hz
 by_cases h1:z < 128
 · rw [Br hz'.1 h1] at hg
   simpa using hg
 · have hh:=Dp (c:=z) (by omega)
   cases he:Lib.encodeRune z with
   | nil=>have:=(Zqe z).1;rw [he] at this;simp at this
   | cons x y =>
     rw [he,List.cons_append] at hl
     have:b=x:=by injection hl
     subst this
     have:=hh b (by rw [he];simp)
     omega
theorem U8 {s:ByteArray} {i:Nat} (h:Zi (s.data.toList.drop i)=true) (hi:i < s.size) (hb:(s[i]).toNat < 128):Zi (s.data.toList.drop (i+1))=true:=by
 rw [Z9 s i hi] at h
 exact N7 h hb
theorem Zxi:∀ (hs r:List UInt8),(∀ b ∈ hs,(b == 34)=false∧(b == 10 || b == 13)=false∧(b == 92)=false)→J5 (hs++r)=(J5 r).map fun q=>(hs++q.1,hs.length+q.2):=by
 intro hs
 induction hs with
 | nil=>intro r _;simp
 | cons b t ih =>
   intro r h
   obtain ⟨a1,a2,a3⟩:=h b (by simp)
   rw [List.cons_append,Xg,a1,a2,a3,ih r (fun c hc=>h c (by simp [hc]))]
   cases J5 r with
   | none=>rfl
   | some q=>simp;omega
theorem Yff {z:Int} (hz:okB z=true) (h34:z ≠ 34) (h10:z ≠ 10) (h13:z ≠ 13) (h92:z ≠ 92) (r:List UInt8):J5 (Lib.encodeRune z++r)=(J5 r).map fun q=>(Lib.encodeRune z++q.1,(Lib.encodeRune z).length+q.2):=by
 refine Zxi _ r fun b hb=>?_
 have hz':0≤z∧z≤1114111∧X3 z=false:=by simpa [okB] using hz
 by_cases h1:z < 128
 · rw [Br hz'.1 h1] at hb
   simp only [List.mem_singleton] at hb
   obtain ⟨n,rfl⟩:=Int.eq_ofNat_of_zero_le hz'.1
   have hn:b.toNat=n:=by rw [hb];simp [Nat.toUInt8,UInt8.toNat_ofNat'];omega
   have ne:∀ c:UInt8,b=c→n=c.toNat:=fun c h=>by rw [← hn,h]
   have k:∀ c:UInt8,n ≠ c.toNat→(b == c)=false:=fun c h=>by
    cases hbc:(b == c) with
    | false=>rfl
    | true=>exact absurd (ne c (by simpa using hbc)) h
   have e34:n ≠ (34:UInt8).toNat:=fun h=>h34 (by have:(34:UInt8).toNat=34:=rfl;omega)
   have e10:n ≠ (10:UInt8).toNat:=fun h=>h10 (by have:(10:UInt8).toNat=10:=rfl;omega)
   have e13:n ≠ (13:UInt8).toNat:=fun h=>h13 (by have:(13:UInt8).toNat=13:=rfl;omega)
   have e92:n ≠ (92:UInt8).toNat:=fun h=>h92 (by have:(92:UInt8).toNat=92:=rfl;omega)
   exact ⟨k 34 e34,by rw [k 10 e10,k 13 e13];rfl,k 92 e92⟩
 · have hh := Dp (c:=z) (by omega) b hb
   have k : ∀ c:UInt8,c.toNat < 128→(b == c)=false:=fun c h=>by
    cases hbc:(b == c) with
    | false=>rfl
    | true => have:b=c:=by simpa using hbc
              subst this;omega
   exact ⟨k 34 (by decide),by rw [k 10 (by decide),k 13 (by decide)];rfl,k 92 (by decide)⟩
theorem Ybc {z:Int} {s:ByteArray} {i:Nat} (hi:i < s.size) (h:s.data.toList.drop i=Lib.encodeRune z++(s.data.toList.drop i).drop (Lib.encodeRune z).length) (c:Int) (h0:0≤c) (hc:c < 128) (hne:(s[i].toNat:Int) ≠ c):z ≠ c:=by
 rintro rfl
 rw [Br h0 hc,Z9 s i hi] at h
 have:s[i]=z.toNat.toUInt8:=by injection h
 apply hne
 rw [this]
 simp [Nat.toUInt8,UInt8.toNat_ofNat'];omega
theorem W8 {n:Nat} {v:Int} {b:UInt8} {t:List UInt8} (h:Ch b=true):Oe (n+1) v (b :: t)=Oe n (v*16+Ru b) t:=by rw [Oe,if_pos h]
theorem Sl (t:List UInt8):Zg (92 :: 117 :: t)=if Oe 4 0 t < 0 then none else some (Oe 4 0 t):=by
 match t with
 | []=>rfl
 | [a]=>cases ha:Ch a<;>simp [Zg,Oe,ha]
 | [a,b]=>cases ha:Ch a<;>cases hb:Ch b<;>simp [Zg,Oe,ha,hb]
 | [a,b,c]=>cases ha:Ch a<;>cases hb:Ch b<;>cases hc:Ch c<;>simp [Zg,Oe,ha,hb,hc]
 | a :: b :: c :: d :: r =>
   cases ha:Ch a
   · simp [Zg,Oe,ha]
   cases hb:Ch b
   · simp [Zg,Oe,ha,hb]
   cases hc:Ch c
   · simp [Zg,Oe,ha,hb,hc]
   cases hd:Ch d
   · simp [Zg,Oe,ha,hb,hc,hd]
   have:=Lu ha;have:=Lu hb;have:=Lu hc;have:=Lu hd
   have e:Oe 4 0 (a :: b :: c :: d :: r)=Yk5 a b c d:=by
     rw [W8 ha,W8 hb,W8 hc,W8 hd,Oe]
     unfold Yk5
     omega
   have hv : ¬ Yk5 a b c d < 0:=by unfold Yk5;omega
   rw [e,if_neg hv]
   simp [Zg,ha,hb,hc,hd]
theorem Wp {l:List UInt8} (h:∀ t,l ≠ 92 :: 117 :: t):Zg l=none:=by
 cases hu:Zg l with
 | none=>rfl
 | some u=>obtain ⟨t,ht⟩:=Cg hu;exact absurd ht (h t)
def noQ:Value:=.tuple #[.string ⟨#[]⟩,.int .i64 0,.bool false]
def qV (out:List UInt8) (i:Nat) (o:Option (List UInt8 × Nat)):Value:=
 match o with
 | none=>noQ
 | some q=>.tuple #[.string ⟨(out++q.1).toArray⟩,.int .i64 ((i+q.2:Nat):Int),.bool true]
theorem Yiz {out:List UInt8} {i:Nat} {us:List Int} {l:List UInt8} {u:Int} (h:Zg l=some u):qV out i (Ia us l)=qV out (i+6) (Ia (us++[u]) (l.drop 6)):=by
 rw [Zvy h]
 cases Ia (us++[u]) (l.drop 6) with
 | none=>rfl
 | some q=>simp only [Option.map_some,qV,Nat.add_assoc]
theorem Ca {out:List UInt8} {i:Nat} {us:List Int} {l:List UInt8} (h:Zg l=none) (hj:Vq us=none):qV out i (Ia us l)=noQ:=by
 rw [Ok h,hj];rfl
theorem C6 {out x:List UInt8} {i:Nat} {us:List Int} {l:List UInt8} (h:Zg l=none) (hj:Vq us=some x):qV out i (Ia us l)=qV (out++x) i (Ia [] l):=by
 rw [Ok h,hj,Vm]
 cases J5 l with
 | none=>rfl
 | some q=>simp only [Option.map_some,qV,List.append_assoc]
theorem Yhx {out x:List UInt8} {i n:Nat} {o:Option (List UInt8 × Nat)} : qV out i (o.map fun q=>(x++q.1,n+q.2))=qV (out++x) (i+n) o:=by
 cases o with
 | none=>rfl
 | some q=>simp only [Option.map_some,qV,List.append_assoc,Nat.add_assoc]
theorem Yln {out:List UInt8} {i:Nat} {t:List UInt8} : qV out i (Ia [] (34 :: t))=.tuple #[.string ⟨out.toArray⟩,.int .i64 ((i+1:Nat):Int),.bool true]:=by
 rw [Vm,Xg]
 show qV out i (some ([],1))=_
 simp [qV]
theorem Yhj {out:List UInt8} {i:Nat} {b:UInt8} {t:List UInt8} (h:b=10∨b=13):qV out i (Ia [] (b :: t))=noQ:=by
 rw [Vm,Xg]
 rcases h with rfl|rfl<;>rfl
theorem Ym1 {out:List UInt8} {i:Nat} {us:List Int} : qV out i (Ia us [])=noQ:=by
 rw [Ok rfl]
 cases Vq us<;>rfl
theorem Pg {c:List UInt8} (h:Zg (92 :: c)=none):Ot (92 :: c)=match c with|d :: _=>(Md d).map fun x=>([x],2)|[]=>none:=by
 unfold Ot
 rw [if_pos (U3 h)]
 cases c<;>rfl
theorem Zjc {out:List UInt8} {i:Nat} {d:UInt8} {t:List UInt8} (h:Zg (92 :: d :: t)=none):qV out i (Ia [] (92 :: d :: t))=match Md d with|none=>noQ|some x=>qV (out++[x]) (i+2) (Ia [] t):=by
 rw [Vm,Xg,Pg h,Vm]
 show qV out i (match (Md d).map fun x=>([x],2) with|none=>none|some p=>(J5 ((92 :: d :: t).drop p.2)).map fun q=>(p.1++q.1,p.2+q.2))=_
 cases Md d with
 | none=>rfl
 | some x=>exact Yhx (x:=[x]) (n:=2)
theorem Yj3 {out:List UInt8} {i:Nat} : qV out i (Ia [] [92])=noQ:=by
 rw [Vm,Xg,Pg (by rfl)];rfl
theorem Yls {out:List UInt8} {i:Nat} {us:List Int} {t:List UInt8} (h:Oe 4 0 t < 0):qV out i (Ia us (92 :: 117 :: t))=noQ:=by
 have hu:Zg (92 :: 117 :: t)=none:=by rw [Sl,if_pos h]
 cases hj:Vq us with
 | none=>exact Ca hu hj
 | some x=>rw [C6 hu hj,Zjc hu];rfl
theorem Yke:∀ b:UInt8,([34,92,47,98,102,110,114,116]:List UInt8).contains b=false→Md b=none:=Zw (by decide +kernel)
theorem Ymf:∀ k:Fin 8,Md ((⟨#[34,92,47,98,102,110,114,116]⟩:ByteArray)[k.val]'(by have:=k.isLt;show k.val < 8;omega))=some (([34,92,47,8,12,10,13,9]:List UInt8).getD k.val 0):=by decide +kernel
theorem Zy8 (b:UInt8) (w:World):Calls Tryz.prog 181 #[.string ⟨#[34,92,47,98,102,110,114,116]⟩,.int .u8 (b.toNat:Int)] w fun e w'=>(∃ r:Int,e=.returned (.int .i64 r)∧((r < 0∧Md b=none)∨∃ k:Nat,k < 8∧r=k∧Md b=some (([34,92,47,8,12,10,13,9]:List UInt8).getD k 0)))∧w=w':=by
 obtain ⟨M,hM⟩:∃ M:ByteArray,(⟨#[34,92,47,98,102,110,114,116]⟩:ByteArray)=M:=⟨_,rfl⟩
 have hMs:M.size=8:=by rw [← hM];rfl
 have HMl:Hid (M.data.toList=[34,92,47,98,102,110,114,116]):=Hd (by rw [← hM])
 have HMa:Hid (∀ (k:Nat) (h:k < M.size),k < 8→Md M[k]=some (([34,92,47,8,12,10,13,9]:List UInt8).getD k 0)):=Hd (by subst hM;exact fun k _ h8=>Ymf ⟨k,h8⟩)
 rw [hM]
 clear hM
 go_enter Tryz.func181,Tryz.ntmps181
 go_wp2
 go_loopg [5] 8 (fun g n wx=>∃ k:Nat,k+g=8∧n=.int .i64 k∧Aside ((M.data.toList.take k).contains b=false)∧w=wx)
 case atStart=>exact ⟨0,by omega,rfl,Aside.intro rfl,rfl⟩
 case round =>
  obtain ⟨k,hk,rfl,HR,rfl⟩:=hrel
  by_cases hlt:k < M.size
  · have hlt':(k:Int) < (M.size:Int):=by omega
    have hk0:(0:Int)≤(k:Int):=by omega
    have hg:Hid (M.data.toList[k]? = some M[k]):=Hd (by
      rw [List.getElem?_eq_getElem (by rw [Z6];exact hlt),Array.getElem_toList]
      rfl)
    cases c:(M[k] == b)
    · obtain ⟨a1,_⟩:=Ow c (b.toNat:Int) rfl
      have hr:Hid ((M.data.toList.take (k+1)).contains b=false):=Hd (by
       exact Zkg HR.out hg.out c)
      clear HR c hg
      go_wp2
      go_roundg (gk - 1)
      case measure=>omega
      case rel=>exact ⟨k+1,by omega,by go_num,Aside.intro hr.out,rfl⟩
    · obtain ⟨a1,_⟩:=On c (b.toNat:Int) rfl
      have hr:Hid (Md b=some (([34,92,47,8,12,10,13,9]:List UInt8).getD k 0)):=Hd (by
       have hb:M[k]=b:=by simpa using c
       rw [← hb]
       exact HMa.out k hlt (by omega))
      clear HR c hg
      go_wp2
      go_ret
      exact ⟨⟨_,rfl,.inr ⟨k,by omega,rfl,hr.out⟩⟩,rfl⟩
  · have hlt' : ¬ (k:Int) < (M.size:Int):=by omega
    have hr:Hid (Md b=none):=Hd (by
      have h:=HR.out
      rw [List.take_of_length_le (by rw [Z6];omega),HMl.out] at h
      exact Yke b h)
    clear HR
    go_wp2
    go_ret
    exact ⟨⟨_,rfl,.inl ⟨by omega,hr.out⟩⟩,rfl⟩
end Go.Proofs.YtpkmbhnikilihaaGreatDoor
