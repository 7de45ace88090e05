/- The walks of token's fraction and exponent. -/
import Derived.Test.YtkmloefbkgcbkaaGreatDoorSr6
import Derived.Deep.DeepCutAuto
set_option maxRecDepth 100000
set_option maxHeartbeats 1000000
namespace Go.Proofs.YtkmloefbkgcbkaaGreatDoor
open Go.RowKit
theorem Bz (a:UInt8) (l:List UInt8):pre [a] l=Jh (fun b=>b == a) l:=by
 cases l with
 | nil=>rfl
 | cons b t =>
   unfold pre Jh;rw [List.isPrefixOf_cons_cons]
   cases h:(b == a)
   · have h1:b ≠ a:=by simpa using h
     have h2:(a == b)=false:=by simpa using fun e=>h1 e.symm
     simp [h1,h2]
   · have:b=a:=by simpa using h
     subst this;simp
theorem Yav (s q:ByteArray) (w:World) (b:Bool) (h:pre q.data.toList s.data.toList=b):Calls Tryz.prog 74 #[.string s,.string q] w fun e w'=>e=.returned (.bool b)∧w=w':=
 (Rl s q w).mono fun _ _ ⟨he,hw⟩=>⟨by rw [he,← h];rfl,hw.symm⟩
theorem Oo {b c:UInt8} (h:(b == c)=true) (n:Int) (hn:(c.toNat:Int)=n):((b.toNat:Int) == n)=true∧((b.toNat:Int) != n)=false:=by
 have:b=c:=by simpa using h
 subst this;simp [hn]
theorem On {b c:UInt8} (h:(b == c)=false) (n:Int) (hn:(c.toNat:Int)=n):((b.toNat:Int) == n)=false∧((b.toNat:Int) != n)=true:=by
 have hne:b ≠ c:=by simpa using h
 have:(b.toNat:Int) ≠ n:=fun e=>hne (UInt8.toNat_inj.1 (by omega));simp [this]
theorem Jn (s:ByteArray) (k:Nat) (w:World) (hs:s.size≤1100000):Calls Tryz.prog 79 #[.string (s.extract k s.size)] w fun e w'=>e=.returned (.int .i64 (Xe (s.data.toList.drop k)))∧w=w':=by
 have h:=Zyp (s.extract k s.size) w (by rw [Ur];omega)
 rwa [Xm] at h
theorem Tf (s:ByteArray) (w:World) (hs:s.size≤1100000):Calls Tryz.prog 80 #[.string s] w fun e w'=>e=.returned (.int .i64 (Vp s.data.toList))∧w=w':=by
 cases hp:pre [46] s.data.toList
 · have HP:=Hd (Yav s ⟨#[46]⟩ w false hp)
   have hr:Hid (Vp s.data.toList=0):=Hd (by
     cases hl:s.data.toList with
     | nil=>rfl
     | cons b t =>
       rw [hl] at hp
       have:(b == 46)=false:=by
        cases hb:(b == 46)
        · rfl
        · have:b=46:=by simpa using hb
          subst this
          cases hp
       simp only [Vp,this]
       rfl)
   clear hp
   go_enter Tryz.func80,Tryz.ntmps80
   go_wp2_with fail
   refine HP.out.mono ?_;rintro e w1 ⟨rfl,rfl⟩;go_wp2_with fail
   go_ret
   exact ⟨Jg (by rw [hr.out];rfl),rfl⟩
 · have HP:=Hd (Yav s ⟨#[46]⟩ w true hp)
   have h0:1≤s.size:=by have:=V9 hp;rw [Z7] at this;exact this
   have h0':(1:Int)≤(s.size:Int):=by omega
   have hc:s[0]=46:=by
     rw [Vf s h0] at hp;unfold pre at hp;rw [List.isPrefixOf_cons_cons] at hp;simp at hp
     exact hp.symm
   have hr:Hid (Vp s.data.toList=if Xe (s.data.toList.drop 1)=0 then 0 else 1+Xe (s.data.toList.drop 1)):=Hd (by
     rw [Vf s h0,hc];simp [Vp])
   have hD:=Jn s 1 w hs;have hrl:=Vc (s.data.toList.drop 1);rw [List.length_drop,Z7] at hrl;obtain ⟨r,hR⟩:∃ r,Xe (s.data.toList.drop 1)=r:=⟨_,rfl⟩;rw [hR] at hD hrl;have HD:=Hd hD;have HR:=Hd hR;clear hp hc hD hR;rcases Nat.eq_zero_or_pos r with hz|hz
   · have e0:((r:Int) == 0)=true:=by simp;omega
     have hz':=Hd hz;clear hz
     go_enter Tryz.func80,Tryz.ntmps80
     go_wp2_with fail
     refine HP.out.mono ?_;rintro e w1 ⟨rfl,rfl⟩;go_wp2_with fail
     refine HD.out.mono ?_;rintro e w1 ⟨rfl,rfl⟩;go_wp2_with fail
     go_ret
     exact ⟨Jg (by rw [hr.out,HR.out,if_pos hz'.out];rfl),rfl⟩
   · have e0:((r:Int) == 0)=false:=by simp;omega
     have hz':=Hd hz;clear hz
     go_enter Tryz.func80,Tryz.ntmps80
     go_wp2_with fail
     refine HP.out.mono ?_;rintro e w1 ⟨rfl,rfl⟩;go_wp2_with fail
     refine HD.out.mono ?_;rintro e w1 ⟨rfl,rfl⟩;go_wp2_with fail
     go_ret
     exact ⟨Jg (by have:=hz'.out;rw [hr.out,HR.out,if_neg (by omega)];omega),rfl⟩
theorem Yj3 (s:ByteArray) (h:0 < s.size):Jl s.data.toList=if s[0] == 101 || s[0] == 69 then (if Xe (s.data.toList.drop (1+Xp (s.data.toList.drop 1)))=0 then 0 else 1+Xp (s.data.toList.drop 1)+Xe (s.data.toList.drop (1+Xp (s.data.toList.drop 1)))) else 0:=by
 have e:∀ k,s.data.toList.drop (1+k)=(s.data.toList.drop 1).drop k:=fun k=>by rw [List.drop_drop]
 rw [e]
 conv=>lhs;rw [Vf s h]
 rfl
theorem Zqo (s:ByteArray) (w:World) (hs:s.size≤1100000):Calls Tryz.prog 81 #[.string s] w fun e w'=>e=.returned (.int .i64 (Jl s.data.toList))∧w=w':=by
 rcases Nat.eq_zero_or_pos s.size with h0|h0
 · have hr:Hid (Jl s.data.toList=0):=Hd (by rw [Jb h0];rfl)
   have he:=Lq h0
   go_enter Tryz.func81,Tryz.ntmps81
   go_wp2_with fail
   go_ret
   exact ⟨Jg (by rw [hr.out];rfl),rfl⟩
 have he:=Eg h0;have HE:=Hd (Yj3 s h0);have h0':(0:Int) < (s.size:Int):=by omega
 cases ha:(s[0] == 101)
 · obtain ⟨a1,a2⟩:=On ha 101 rfl
   cases hb:(s[0] == 69)
   · obtain ⟨b1,b2⟩:=On hb 69 rfl
     have hr:Hid (Jl s.data.toList=0):=Hd (by rw [HE.out,ha,hb];rfl);clear HE ha hb
     go_enter Tryz.func81,Tryz.ntmps81
     go_wp2_with fail
     go_ret
     exact ⟨Jg (by rw [hr.out];rfl),rfl⟩
   · obtain ⟨b1,b2⟩:=Oo hb 69 rfl
     have hE:Hid ((s[0] == 101 || s[0] == 69)=true):=Hd (by rw [hb,Bool.or_true]);clear ha hb
     by_cases h1:1 < s.size
     · have h1':(1:Int) < (s.size:Int):=by omega
       have hcons:=Zc s 1 h1
       cases hp:(s[1] == 43)
       · obtain ⟨p1,p2⟩:=On hp 43 rfl
         cases hm:(s[1] == 45)
         · obtain ⟨m1,m2⟩:=On hm 45 rfl
           have hsg:Xp (s.data.toList.drop 1)=0:=by rw [hcons];simp [Xp,hp,hm]
           clear hcons hp hm;have hr:Hid (Jl s.data.toList=if Xe (s.data.toList.drop 1)=0 then 0 else 1+Xe (s.data.toList.drop 1)):=Hd (by rw [HE.out,hsg,if_pos hE.out]);have hD:=Jn s 1 w hs;have hrl:=Vc (s.data.toList.drop 1);rw [List.length_drop,Z7] at hrl;obtain ⟨r,hR⟩:∃ r,Xe (s.data.toList.drop 1)=r:=⟨_,rfl⟩;rw [hR] at hD hrl;have HD:=Hd hD;have HR:=Hd hR;clear hsg HE hE hD hR;rcases Nat.eq_zero_or_pos r with hz|hz
           · have e0:((r:Int) == 0)=true:=by simp;omega
             have hz':=Hd hz;clear hz
             go_enter Tryz.func81,Tryz.ntmps81
             go_wp2_with fail
             refine HD.out.mono ?_;rintro e w1 ⟨rfl,rfl⟩;go_wp2_with fail
             go_ret
             exact ⟨Jg (by rw [hr.out,HR.out,if_pos hz'.out];rfl),rfl⟩
           · have e0:((r:Int) == 0)=false:=by simp;omega
             have hz':=Hd hz;clear hz
             go_enter Tryz.func81,Tryz.ntmps81
             go_wp2_with fail
             refine HD.out.mono ?_;rintro e w1 ⟨rfl,rfl⟩;go_wp2_with fail
             go_ret
             exact ⟨Jg (by have:=hz'.out;rw [hr.out,HR.out,if_neg (by omega)];omega),rfl⟩
         · obtain ⟨m1,m2⟩:=Oo hm 45 rfl
           have hsg:Xp (s.data.toList.drop 1)=1:=by rw [hcons];simp [Xp,hp,hm]
           clear hcons hp hm;have hr:Hid (Jl s.data.toList=if Xe (s.data.toList.drop 2)=0 then 0 else 2+Xe (s.data.toList.drop 2)):=Hd (by rw [HE.out,hsg,if_pos hE.out]);have hD:=Jn s 2 w hs;have hrl:=Vc (s.data.toList.drop 2);rw [List.length_drop,Z7] at hrl;obtain ⟨r,hR⟩:∃ r,Xe (s.data.toList.drop 2)=r:=⟨_,rfl⟩;rw [hR] at hD hrl;have HD:=Hd hD;have HR:=Hd hR;clear hsg HE hE hD hR;rcases Nat.eq_zero_or_pos r with hz|hz
           · have e0:((r:Int) == 0)=true:=by simp;omega
             have hz':=Hd hz;clear hz
             go_enter Tryz.func81,Tryz.ntmps81
             go_wp2_with fail
             refine HD.out.mono ?_;rintro e w1 ⟨rfl,rfl⟩;go_wp2_with fail
             go_ret
             exact ⟨Jg (by rw [hr.out,HR.out,if_pos hz'.out];rfl),rfl⟩
           · have e0:((r:Int) == 0)=false:=by simp;omega
             have hz':=Hd hz;clear hz
             go_enter Tryz.func81,Tryz.ntmps81
             go_wp2_with fail
             refine HD.out.mono ?_;rintro e w1 ⟨rfl,rfl⟩;go_wp2_with fail
             go_ret
             exact ⟨Jg (by have:=hz'.out;rw [hr.out,HR.out,if_neg (by omega)];omega),rfl⟩
       · obtain ⟨p1,p2⟩:=Oo hp 43 rfl
         have hsg:Xp (s.data.toList.drop 1)=1:=by rw [hcons];simp [Xp,hp]
         clear hcons hp;have hr:Hid (Jl s.data.toList=if Xe (s.data.toList.drop 2)=0 then 0 else 2+Xe (s.data.toList.drop 2)):=Hd (by rw [HE.out,hsg,if_pos hE.out]);have hD:=Jn s 2 w hs;have hrl:=Vc (s.data.toList.drop 2);rw [List.length_drop,Z7] at hrl;obtain ⟨r,hR⟩:∃ r,Xe (s.data.toList.drop 2)=r:=⟨_,rfl⟩;rw [hR] at hD hrl;have HD:=Hd hD;have HR:=Hd hR;clear hsg HE hE hD hR;rcases Nat.eq_zero_or_pos r with hz|hz
         · have e0:((r:Int) == 0)=true:=by simp;omega
           have hz':=Hd hz;clear hz
           go_enter Tryz.func81,Tryz.ntmps81
           go_wp2_with fail
           refine HD.out.mono ?_;rintro e w1 ⟨rfl,rfl⟩;go_wp2_with fail
           go_ret
           exact ⟨Jg (by rw [hr.out,HR.out,if_pos hz'.out];rfl),rfl⟩
         · have e0:((r:Int) == 0)=false:=by simp;omega
           have hz':=Hd hz;clear hz
           go_enter Tryz.func81,Tryz.ntmps81
           go_wp2_with fail
           refine HD.out.mono ?_;rintro e w1 ⟨rfl,rfl⟩;go_wp2_with fail
           go_ret
           exact ⟨Jg (by have:=hz'.out;rw [hr.out,HR.out,if_neg (by omega)];omega),rfl⟩
     · have h1' : ¬ ((1:Int) < (s.size:Int)):=by omega
       have hsg:Xp (s.data.toList.drop 1)=0:=by rw [Ys s 1 (by omega)];rfl
       have hr:Hid (Jl s.data.toList=if Xe (s.data.toList.drop 1)=0 then 0 else 1+Xe (s.data.toList.drop 1)):=Hd (by rw [HE.out,hsg,if_pos hE.out]);have hD:=Jn s 1 w hs;have hrl:=Vc (s.data.toList.drop 1);rw [List.length_drop,Z7] at hrl;obtain ⟨r,hR⟩:∃ r,Xe (s.data.toList.drop 1)=r:=⟨_,rfl⟩;rw [hR] at hD hrl;have HD:=Hd hD;have HR:=Hd hR;clear hsg HE hE hD hR;rcases Nat.eq_zero_or_pos r with hz|hz
       · have e0:((r:Int) == 0)=true:=by simp;omega
         have hz':=Hd hz;clear hz
         go_enter Tryz.func81,Tryz.ntmps81
         go_wp2_with fail
         refine HD.out.mono ?_;rintro e w1 ⟨rfl,rfl⟩;go_wp2_with fail
         go_ret
         exact ⟨Jg (by rw [hr.out,HR.out,if_pos hz'.out];rfl),rfl⟩
       · have e0:((r:Int) == 0)=false:=by simp;omega
         have hz':=Hd hz;clear hz
         go_enter Tryz.func81,Tryz.ntmps81
         go_wp2_with fail
         refine HD.out.mono ?_;rintro e w1 ⟨rfl,rfl⟩;go_wp2_with fail
         go_ret
         exact ⟨Jg (by have:=hz'.out;rw [hr.out,HR.out,if_neg (by omega)];omega),rfl⟩
 · obtain ⟨a1,a2⟩:=Oo ha 101 rfl
   have hE:Hid ((s[0] == 101 || s[0] == 69)=true):=Hd (by rw [ha,Bool.true_or]);clear ha
   by_cases h1:1 < s.size
   · have h1':(1:Int) < (s.size:Int):=by omega
     have hcons:=Zc s 1 h1
     cases hp:(s[1] == 43)
     · obtain ⟨p1,p2⟩:=On hp 43 rfl
       cases hm:(s[1] == 45)
       · obtain ⟨m1,m2⟩:=On hm 45 rfl
         have hsg:Xp (s.data.toList.drop 1)=0:=by rw [hcons];simp [Xp,hp,hm]
         clear hcons hp hm;have hr:Hid (Jl s.data.toList=if Xe (s.data.toList.drop 1)=0 then 0 else 1+Xe (s.data.toList.drop 1)):=Hd (by rw [HE.out,hsg,if_pos hE.out]);have hD:=Jn s 1 w hs;have hrl:=Vc (s.data.toList.drop 1);rw [List.length_drop,Z7] at hrl;obtain ⟨r,hR⟩:∃ r,Xe (s.data.toList.drop 1)=r:=⟨_,rfl⟩;rw [hR] at hD hrl;have HD:=Hd hD;have HR:=Hd hR;clear hsg HE hE hD hR;rcases Nat.eq_zero_or_pos r with hz|hz
         · have e0:((r:Int) == 0)=true:=by simp;omega
           have hz':=Hd hz;clear hz
           go_enter Tryz.func81,Tryz.ntmps81
           go_wp2_with fail
           refine HD.out.mono ?_;rintro e w1 ⟨rfl,rfl⟩;go_wp2_with fail
           go_ret
           exact ⟨Jg (by rw [hr.out,HR.out,if_pos hz'.out];rfl),rfl⟩
         · have e0:((r:Int) == 0)=false:=by simp;omega
           have hz':=Hd hz;clear hz
           go_enter Tryz.func81,Tryz.ntmps81
           go_wp2_with fail
           refine HD.out.mono ?_;rintro e w1 ⟨rfl,rfl⟩;go_wp2_with fail
           go_ret
           exact ⟨Jg (by have:=hz'.out;rw [hr.out,HR.out,if_neg (by omega)];omega),rfl⟩
       · obtain ⟨m1,m2⟩:=Oo hm 45 rfl
         have hsg:Xp (s.data.toList.drop 1)=1:=by rw [hcons];simp [Xp,hp,hm]
         clear hcons hp hm;have hr:Hid (Jl s.data.toList=if Xe (s.data.toList.drop 2)=0 then 0 else 2+Xe (s.data.toList.drop 2)):=Hd (by rw [HE.out,hsg,if_pos hE.out]);have hD:=Jn s 2 w hs;have hrl:=Vc (s.data.toList.drop 2);rw [List.length_drop,Z7] at hrl;obtain ⟨r,hR⟩:∃ r,Xe (s.data.toList.drop 2)=r:=⟨_,rfl⟩;rw [hR] at hD hrl;have HD:=Hd hD;have HR:=Hd hR;clear hsg HE hE hD hR;rcases Nat.eq_zero_or_pos r with hz|hz
         · have e0:((r:Int) == 0)=true:=by simp;omega
           have hz':=Hd hz;clear hz
           go_enter Tryz.func81,Tryz.ntmps81
           go_wp2_with fail
           refine HD.out.mono ?_;rintro e w1 ⟨rfl,rfl⟩;go_wp2_with fail
           go_ret
           exact ⟨Jg (by rw [hr.out,HR.out,if_pos hz'.out];rfl),rfl⟩
         · have e0:((r:Int) == 0)=false:=by simp;omega
           have hz':=Hd hz;clear hz
           go_enter Tryz.func81,Tryz.ntmps81
           go_wp2_with fail
           refine HD.out.mono ?_;rintro e w1 ⟨rfl,rfl⟩;go_wp2_with fail
           go_ret
           exact ⟨Jg (by have:=hz'.out;rw [hr.out,HR.out,if_neg (by omega)];omega),rfl⟩
     · obtain ⟨p1,p2⟩:=Oo hp 43 rfl
       have hsg:Xp (s.data.toList.drop 1)=1:=by rw [hcons];simp [Xp,hp]
       clear hcons hp;have hr:Hid (Jl s.data.toList=if Xe (s.data.toList.drop 2)=0 then 0 else 2+Xe (s.data.toList.drop 2)):=Hd (by rw [HE.out,hsg,if_pos hE.out]);have hD:=Jn s 2 w hs;have hrl:=Vc (s.data.toList.drop 2);rw [List.length_drop,Z7] at hrl;obtain ⟨r,hR⟩:∃ r,Xe (s.data.toList.drop 2)=r:=⟨_,rfl⟩;rw [hR] at hD hrl;have HD:=Hd hD;have HR:=Hd hR;clear hsg HE hE hD hR;rcases Nat.eq_zero_or_pos r with hz|hz
       · have e0:((r:Int) == 0)=true:=by simp;omega
         have hz':=Hd hz;clear hz
         go_enter Tryz.func81,Tryz.ntmps81
         go_wp2_with fail
         refine HD.out.mono ?_;rintro e w1 ⟨rfl,rfl⟩;go_wp2_with fail
         go_ret
         exact ⟨Jg (by rw [hr.out,HR.out,if_pos hz'.out];rfl),rfl⟩
       · have e0:((r:Int) == 0)=false:=by simp;omega
         have hz':=Hd hz;clear hz
         go_enter Tryz.func81,Tryz.ntmps81
         go_wp2_with fail
         refine HD.out.mono ?_;rintro e w1 ⟨rfl,rfl⟩;go_wp2_with fail
         go_ret
         exact ⟨Jg (by have:=hz'.out;rw [hr.out,HR.out,if_neg (by omega)];omega),rfl⟩
   · have h1' : ¬ ((1:Int) < (s.size:Int)):=by omega
     have hsg:Xp (s.data.toList.drop 1)=0:=by rw [Ys s 1 (by omega)];rfl
     have hr:Hid (Jl s.data.toList=if Xe (s.data.toList.drop 1)=0 then 0 else 1+Xe (s.data.toList.drop 1)):=Hd (by rw [HE.out,hsg,if_pos hE.out]);have hD:=Jn s 1 w hs;have hrl:=Vc (s.data.toList.drop 1);rw [List.length_drop,Z7] at hrl;obtain ⟨r,hR⟩:∃ r,Xe (s.data.toList.drop 1)=r:=⟨_,rfl⟩;rw [hR] at hD hrl;have HD:=Hd hD;have HR:=Hd hR;clear hsg HE hE hD hR;rcases Nat.eq_zero_or_pos r with hz|hz
     · have e0:((r:Int) == 0)=true:=by simp;omega
       have hz':=Hd hz;clear hz
       go_enter Tryz.func81,Tryz.ntmps81
       go_wp2_with fail
       refine HD.out.mono ?_;rintro e w1 ⟨rfl,rfl⟩;go_wp2_with fail
       go_ret
       exact ⟨Jg (by rw [hr.out,HR.out,if_pos hz'.out];rfl),rfl⟩
     · have e0:((r:Int) == 0)=false:=by simp;omega
       have hz':=Hd hz;clear hz
       go_enter Tryz.func81,Tryz.ntmps81
       go_wp2_with fail
       refine HD.out.mono ?_;rintro e w1 ⟨rfl,rfl⟩;go_wp2_with fail
       go_ret
       exact ⟨Jg (by have:=hz'.out;rw [hr.out,HR.out,if_neg (by omega)];omega),rfl⟩
theorem Jk {R:Ending→World→Prop} {fn:Func} {a:Act} {W:World} {k v:Value} {b:Nat} (hf:fn.results=#[.cell 2 45,.tmp 3]) (h2:a.tmps.getD 2 undef=.pointer (some ⟨b,0,none⟩)) (hd:a.defers=[])
  (hc:W.heap[b]? = some (.cells #[k,v] 45 (0,0))) (hR:R (.returned (.tuple #[.agg #[k,v],a.tmps.getD 3 undef])) W):bodyPost Tryz.prog fn R .ret a W:=by
 have hl:(loadVar 45 ⟨b,0,none⟩).run Tryz.prog W=.ok (.agg #[k,v]) W:=
  run_loadVar_row W b 45 45 #[k,v] (0,0) _ hc Tryz.underlying45 rfl (by kernel_rfl)
 refine bodyPost_ret ?_ hd hR;have h2':a.tmps[2]?.getD undef=.pointer (some ⟨b,0,none⟩):=by rw [← h2];simp
 simp [results,hf,h2',asAddr,hl]
theorem Y5 {w:World} {cs:Array Value} {t:TypeId} : Below w.heap.size w (w.alloc (.cells cs t)):=(Below.refl _ _).alloc (Nat.le_refl _) _
theorem Ymu {k n m:Int} {x y:ByteArray} (hx:x=y) (h:n=m):Ending.returned (.tuple #[.agg #[.int .i64 k,.string x],.int .i64 n])=.returned (.tuple #[.agg #[.int .i64 k,.string y],.int .i64 m]):=by rw [hx,h]
def Zzh (k:Int) (l:List UInt8) (n:Nat):Value:=if n=0 then .tuple #[.agg #[.int .i64 0,.string ⟨#[]⟩],.int .i64 0] else .tuple #[.agg #[.int .i64 k,.string ⟨l.toArray⟩],.int .i64 n]
theorem Ymk (k:Int) (l:List UInt8):Zzh k l 0=.tuple #[.agg #[.int .i64 0,.string ⟨#[]⟩],.int .i64 0]:=rfl
theorem Il {k:Int} {l:List UInt8} {n:Nat} (h:n ≠ 0):Zzh k l n=.tuple #[.agg #[.int .i64 k,.string ⟨l.toArray⟩],.int .i64 n]:=if_neg h
theorem Yea:∀ b:UInt8,decide (Lib.indexByte [33,36,38,40,41,58,61,64,91,93,123,124,125] b < 0) = !Jz b:=Y8 (by decide +kernel)
theorem Yit (s:ByteArray) (w:World):Calls Tryz.prog 39 #[.string s] w fun e w'=>e=.returned (Zzh 1 (s.data.toList.take (J6 s.data.toList)) (J6 s.data.toList))∧Below w.heap.size w w':=by
 cases hp:pre [46,46,46] s.data.toList
 · have HP:=Hd (Yav s ⟨#[46,46,46]⟩ (w.alloc (.cells #[.int .i64 0,.string ⟨#[]⟩] 45)) false hp)
   rcases Nat.eq_zero_or_pos s.size with h0|h0
   · have hr:Hid (J6 s.data.toList=0):=Hd (by rw [Jb h0];rfl)
     have he:=Lq h0;clear hp
     go_enter Tryz.func39,Tryz.ntmps39
     go_wp2_with fail
     refine HP.out.mono ?_;rintro e w1 ⟨rfl,rfl⟩;go_wp2_with fail
     refine Jk rfl rfl rfl (heap_alloc_last _ _) ⟨?_,Y5⟩;rw [hr.out]
     rfl
   · have he:=Eg h0
     have hm:J6 s.data.toList=if Jz s[0] then 1 else 0:=by
       rw [Vf s h0] at hp ⊢;simp only [J6,hp]
       rfl
     have hI:=Fz ⟨#[33,36,38,40,41,58,61,64,91,93,123,124,125]⟩ (s[0].toNat:Int) (w.alloc (.cells #[.int .i64 0,.string ⟨#[]⟩] 45));have hx:=Yea s[0];rw [show ((s[0].toNat:Int).toNat.toUInt8)=s[0] by simp] at hI;obtain ⟨r,hR⟩:∃ r,Lib.indexByte (⟨#[33,36,38,40,41,58,61,64,91,93,123,124,125]⟩:ByteArray).data.toList s[0]=r:=⟨_,rfl⟩;rw [hR] at hI;have hx':decide (r < 0) = !Jz s[0]:=by rw [← hR];exact hx
     have HI:=Hd hI;clear hx hI hR hp
     cases hb:Jz s[0]
     · have hr:Hid (J6 s.data.toList=0):=Hd (by rw [hm,hb];rfl)
       have hneg:r < 0:=by rw [hb] at hx';simpa using hx'
       clear hm hb hx'
       go_enter Tryz.func39,Tryz.ntmps39
       go_wp2_with fail
       refine HP.out.mono ?_;rintro e w1 ⟨rfl,rfl⟩;go_wp2_with fail
       refine HI.out.mono ?_;rintro e w1 ⟨rfl,rfl⟩;go_wp2_with fail
       refine Jk rfl rfl rfl (heap_alloc_last _ _) ⟨?_,Y5⟩;rw [hr.out]
       rfl
     · have hr:Hid (J6 s.data.toList=1):=Hd (by rw [hm,hb];rfl)
       have hneg : ¬ r < 0:=by rw [hb] at hx';simpa using hx'
       have h1:1≤s.size:=h0;clear hm hb hx'
       go_enter Tryz.func39,Tryz.ntmps39
       go_wp2_with fail
       refine HP.out.mono ?_;rintro e w1 ⟨rfl,rfl⟩;go_wp2_with fail
       refine HI.out.mono ?_;rintro e w1 ⟨rfl,rfl⟩;go_wp2_with fail
       refine Jk rfl rfl rfl (heap_alloc_last _ _) ⟨?_,Y5⟩;rw [hr.out,Il (by omega)];exact Ymu (Gc (Cv s 1)).symm rfl
 · have HP:=Hd (Yav s ⟨#[46,46,46]⟩ (w.alloc (.cells #[.int .i64 0,.string ⟨#[]⟩] 45)) true hp)
   have hr:Hid (J6 s.data.toList=3∧s.data.toList.take 3=[46,46,46]):=Hd (by
     have h3:=V9 hp;rw [Z7] at h3;refine ⟨?_,?_⟩
     · have h0:0 < s.size:=by simp at h3;omega
       rw [Vf s h0] at hp ⊢;simp only [J6,hp]
       rfl
     · unfold pre at hp
       rw [List.isPrefixOf_iff_prefix] at hp;exact (List.prefix_iff_eq_take.1 hp).symm)
   clear hp
   go_enter Tryz.func39,Tryz.ntmps39
   go_wp2_with fail
   refine HP.out.mono ?_;rintro e w1 ⟨rfl,rfl⟩;go_wp2_with fail
   refine Jk rfl rfl rfl (heap_alloc_last _ _) ⟨?_,Y5⟩;rw [hr.out.1,hr.out.2,Il (by omega)]
   rfl
def Pc (l:List UInt8) (k:Nat):Prop:=k=0∨Je l=k+((l.drop k).takeWhile If).length
theorem T0 {l:List UInt8} (h:Jh Wf l=true):Pc l 1:=by
 cases l with
 | nil=>cases h
 | cons b t =>
   have h':Wf b=true:=h;refine .inr ?_;simp [Je,h']
theorem Zzm {l:List UInt8} (h:Jh Wf l=false):Je l=0:=by
 cases l with
 | nil=>rfl
 | cons b t =>
   have h':Wf b=false:=h;simp [Je,h']
theorem Av {l:List UInt8} {k:Nat} (h:Pc l k) (hk:k ≠ 0) (hb:Jh If (l.drop k)=true):Pc l (k+1):=by
 rcases h with h|h
 · exact absurd h hk
 refine .inr ?_;rw [h,show k+1=k+1 from rfl,← List.drop_drop]
 cases hl:l.drop k with
 | nil=>rw [hl] at hb;cases hb
 | cons b t =>
   rw [hl] at hb;have hb':If b=true:=hb;rw [List.takeWhile_cons];simp [hb']
   omega
theorem Zye {l:List UInt8} {k:Nat} (h:Pc l k) (hk:k ≠ 0) (hb:Jh If (l.drop k)=false):Je l=k:=by
 rcases h with h|h
 · exact absurd h hk
 rw [h]
 cases hl:l.drop k with
 | nil=>simp
 | cons b t =>
   rw [hl] at hb;have hb':If b=false:=hb;rw [List.takeWhile_cons];simp [hb']
theorem Zj3 (l:List UInt8):Jh If l=(Jh Wf l || Jh Ip l):=by
 cases l<;>rfl
theorem Nw (s:ByteArray) (k:Nat) (w:World):Calls Tryz.prog 76 #[.string (s.extract k s.size)] w fun e w'=>e=.returned (.bool (Jh Wf (s.data.toList.drop k)))∧w=w':=by
 have h:=Zjw (s.extract k s.size) w
 rwa [Xm] at h
theorem Ta (s:ByteArray) (k:Nat) (w:World):Calls Tryz.prog 77 #[.string (s.extract k s.size)] w fun e w'=>e=.returned (.bool (Jh Ip (s.data.toList.drop k)))∧w=w':=by
 have h:=Pp (s.extract k s.size) w
 rwa [Xm] at h
theorem Yfo {s:ByteArray} {k:Nat} {p:UInt8→Bool} (h:Jh p (s.data.toList.drop k)=true):k < s.size:=by
 rcases Nat.lt_or_ge k s.size with h'|h'
 · exact h'
 · rw [Ys s k h'] at h;cases h
theorem Yht (s:ByteArray) (w:World) (hs:s.size≤1100000):Calls Tryz.prog 40 #[.string s] w fun e w'=>e=.returned (Zzh 2 (s.data.toList.take (Je s.data.toList)) (Je s.data.toList))∧Below w.heap.size w w':=by
 go_enter Tryz.func40,Tryz.ntmps40
 go_wp2
 go_loopg [4] s.size (fun g i wx=>∃ k:Nat,k+g=s.size∧i=.int .i64 k∧wx=w.alloc (.cells #[.int .i64 0,.string ⟨#[]⟩] 45)∧Aside (Pc s.data.toList k))
 case atStart=>exact ⟨0,by omega,rfl,rfl,Aside.intro (.inl rfl)⟩
 case round =>
  obtain ⟨k,hk,rfl,rfl,H⟩:=hrel;have hks:(k:Int)≤(s.size:Int):=by omega
  have hk0:(0:Int)≤(k:Int):=by omega
  have HL:=Hd (Nw s k (w.alloc (.cells #[.int .i64 0,.string ⟨#[]⟩] 45)));have HD:=Hd (Ta s k (w.alloc (.cells #[.int .i64 0,.string ⟨#[]⟩] 45)))
  cases hb:Jh Wf (s.data.toList.drop k)
  · rcases Nat.eq_zero_or_pos k with hz|hz
    · have hr:Hid (Je s.data.toList=0):=Hd (Zzm (by rwa [hz,List.drop_zero] at hb))
      have hb':=Hd hb;have e0:((k:Int) == 0)=true:=by simp;omega
      have e1 : ¬ (0:Int) < (k:Int):=by omega
      clear H hb hz;go_wp2_with fail
      refine HL.out.mono ?_;rintro e w1 ⟨rfl,rfl⟩;rw [hb'.out];go_wp2_with fail
      refine Jk rfl rfl rfl (heap_alloc_last _ _) ⟨?_,Y5⟩;rw [hr.out]
      rfl
    · have hz':(0:Int) < (k:Int):=by omega
      cases hd:Jh Ip (s.data.toList.drop k)
      · have hr:Hid (Je s.data.toList=k):=Hd (Zye H.out (by omega) (by rw [Zj3,hb,hd];rfl))
        have hb':=Hd hb;have hd':=Hd hd;have e0:((k:Int) == 0)=false:=by simp;omega
        clear H hb hd;go_wp2_with fail
        refine HL.out.mono ?_;rintro e w1 ⟨rfl,rfl⟩;rw [hb'.out];go_wp2_with fail
        refine HD.out.mono ?_;rintro e w1 ⟨rfl,rfl⟩;rw [hd'.out];go_wp2_with fail
        refine Jk rfl rfl rfl (heap_alloc_last _ _) ⟨?_,Y5⟩;rw [hr.out,Il (by omega)];exact Ymu (Gc (Cv s k)).symm rfl
      · have hlt:=Yfo hd
        have hr:=Hd (Av H.out (by omega) (by rw [Zj3,hb,hd];rfl));have hb':=Hd hb;have hd':=Hd hd;clear H hb hd;go_wp2_with fail
        refine HL.out.mono ?_;rintro e w1 ⟨rfl,rfl⟩;rw [hb'.out];go_wp2_with fail
        refine HD.out.mono ?_;rintro e w1 ⟨rfl,rfl⟩;rw [hd'.out];go_wp2_with fail
        go_roundg (gk - 1)
        case measure=>omega
        case rel=>exact ⟨k+1,by omega,by go_num,rfl,Aside.intro hr.out⟩
  · have hlt:=Yfo hb
    have hr:Hid (Pc s.data.toList (k+1)):=Hd (by
      rcases Nat.eq_zero_or_pos k with hz|hz
      · subst hz
        exact T0 (by rwa [List.drop_zero] at hb)
      · exact Av H.out (by omega) (by rw [Zj3,hb];rfl))
    have hb':=Hd hb;clear H hb;go_wp2_with fail
    refine HL.out.mono ?_;rintro e w1 ⟨rfl,rfl⟩;rw [hb'.out];go_wp2_with fail
    go_roundg (gk - 1)
    case measure=>omega
    case rel=>exact ⟨k+1,by omega,by go_num,rfl,Aside.intro hr.out⟩
theorem Ylj (s:ByteArray) (k:Nat) (w:World) (hs:s.size≤1100000):Calls Tryz.prog 80 #[.string (s.extract k s.size)] w fun e w'=>e=.returned (.int .i64 (Vp (s.data.toList.drop k)))∧w=w':=by
 have h:=Tf (s.extract k s.size) w (by rw [Ur];omega)
 rwa [Xm] at h
theorem Ymi (s:ByteArray) (k:Nat) (w:World) (hs:s.size≤1100000):Calls Tryz.prog 81 #[.string (s.extract k s.size)] w fun e w'=>e=.returned (.int .i64 (Jl (s.data.toList.drop k)))∧w=w':=by
 have h:=Zqo (s.extract k s.size) w (by rw [Ur];omega)
 rwa [Xm] at h
theorem Yjx (s:ByteArray) (k:Nat) (w:World) (b:Bool) (h:Jh (fun b=>b == 46) (s.data.toList.drop k)=b):Calls Tryz.prog 74 #[.string (s.extract k s.size),.string ⟨#[46]⟩] w fun e w'=>e=.returned (.bool b)∧w=w':=
 Yav (s.extract k s.size) ⟨#[46]⟩ w b (by rw [Xm];exact (Bz 46 _).trans h)
theorem Zjj (l:List UInt8):Zu l=if Jh (fun b=>b == 45) l then 1 else 0:=by cases l<;>rfl
theorem Zvf (s:ByteArray) (w:World):∃ t:ByteArray,t.size+Zu s.data.toList=s.size∧Calls Tryz.prog 78 #[.string s,.string ⟨#[45]⟩] w fun e w'=>e=.returned (.string t)∧w=w':=by
 refine ⟨⟨(Lib.trimPrefix s.data.toList [45]).toArray⟩,?_,(Na s ⟨#[45]⟩ w).mono fun _ _ ⟨he,hw⟩=>⟨he,hw.symm⟩⟩;rw [Qc,Zjj];have hl:=Z7 s
 cases hb:Jh (fun b=>b == 45) s.data.toList
 · rw [show Lib.trimPrefix s.data.toList [45]=s.data.toList from if_neg (by show ¬ pre [45] s.data.toList=true;rw [Bz,hb];simp)]
   simp [hl]
 · rw [show Lib.trimPrefix s.data.toList [45]=s.data.toList.drop 1 from if_pos (by show pre [45] s.data.toList=true;rw [Bz,hb])]
   have:s.data.toList ≠ []:=by intro e;rw [e] at hb;cases hb
   have:s.data.toList.length ≠ 0:=fun e=>this (List.eq_nil_of_length_eq_zero e);rw [List.length_drop];simp only [if_true];omega
theorem Zz7 (l:List UInt8):Yc l=0 ↔ Xe l=0:=by
 cases l with
 | nil=>simp [Yc,Xe]
 | cons b t =>
   simp only [Yc]
   split
   · rename_i h
     have:b=48:=by simpa using h
     subst this;rw [Qj (by decide)];omega
   · exact Iff.rfl
theorem Pn {l:List UInt8} {m W f x K K2 N:Nat} (hm:Zu l=m) (hW:Yc (l.drop m)=W) (h0:W ≠ 0) (hK:m+W=K) (hf:Vp (l.drop K)=f) (hK2:K+f=K2) (hx:Jl (l.drop K2)=x) (hN:K2+x=N) :
  nmL l=(N,if f=0∧x=0 then 3 else 4):=by
 unfold nmL;subst hm hW hK hf hK2 hx hN;rw [if_neg h0]
theorem Zjm (l:List UInt8):Jx l=(Jh Ip l || Jh Wf l || Jh (fun b=>b == 46) l):=by cases l<;>rfl
theorem Oc {l:List UInt8} {N:Nat} {k:Int} (h:nmL l=(N,k)) (hb:Jx (l.drop N)=true):nbL l=(0,0):=by
 unfold nbL;rw [h];simp only [hb]
 split<;>rfl
theorem Zj0 {l:List UInt8} {N:Nat} {k:Int} (h:nmL l=(N,k)) (h0:N ≠ 0) (hb:Jx (l.drop N)=false):nbL l=(N,k):=by
 unfold nbL;rw [h];simp [hb,h0]
abbrev Yem:Obj:=.cells #[.int .i64 0,.string ⟨#[]⟩] 45
theorem Pt (s : ByteArray) (w:World) (hs:s.size≤1100000):Calls Tryz.prog 41 #[.string s] w fun e w'=>e=.returned (Zzh (nbL s.data.toList).2 (s.data.toList.take (nbL s.data.toList).1) (nbL s.data.toList).1)∧Below w.heap.size w w':=by
 obtain ⟨t,ht,hT⟩:=Zvf s (w.alloc Yem);have hml:=Zz3 s.data.toList;rw [Z7] at hml;obtain ⟨m,hM⟩:∃ m,Zu s.data.toList=m:=⟨_,rfl⟩;rw [hM] at ht hml;have hD:=Jn s m (w.alloc Yem) hs;have hrl:=Vc (s.data.toList.drop m);rw [List.length_drop,Z7] at hrl;have hwr:=Zz7 (s.data.toList.drop m);obtain ⟨r,hR⟩:∃ r,Xe (s.data.toList.drop m)=r:=⟨_,rfl⟩;rw [hR] at hD hrl hwr;have E0:(s.size:Int) - (t.size:Int)=(m:Int):=by omega
 have hm0:(m:Int)≤(s.size:Int):=by omega
 have HT:=Hd hT;have HD:=Hd hD;have HM:=Hd hM;clear hT hD hM ht;rcases Nat.eq_zero_or_pos r with hz|hz
 · have hr:Hid (nbL s.data.toList=(0,0)):=Hd (by
    unfold nbL nmL;rw [HM.out,if_pos (hwr.2 hz)]
    rfl)
   have e0:((r:Int) == 0)=true:=by simp;omega
   clear hz hwr hR
   go_enter Tryz.func41,Tryz.ntmps41
   go_wp2_with fail
   refine HT.out.mono ?_;rintro e w1 ⟨rfl,rfl⟩;go_wp2_with fail
   refine HD.out.mono ?_;rintro e w1 ⟨rfl,rfl⟩;go_wp2_with fail
   refine Jk rfl rfl rfl (heap_alloc_last _ _) ⟨?_,Y5⟩;rw [hr.out]
   rfl
 · have e0:((r:Int) == 0)=false:=by simp;omega
   have hmlt:m < s.size:=by omega
   have hmlt':(m:Int) < (s.size:Int):=by omega
   have hwd:Yc (s.data.toList.drop m)=if s[m] == 48 then 1 else r:=by
    rw [← hR,Zc s m hmlt];rfl
   have hwl:=Bg (s.data.toList.drop m);rw [List.length_drop,Z7] at hwl;obtain ⟨W,hW⟩:∃ W,Yc (s.data.toList.drop m)=W:=⟨_,rfl⟩;rw [hW] at hwd hwl hwr;have hW0:W ≠ 0:=fun h=>by have:=hwr.1 h;omega
   obtain ⟨K,hK⟩:∃ K,m+W=K:=⟨_,rfl⟩;have E1:(m:Int)+(W:Int)=(K:Int):=by omega
   have hKs:(K:Int)≤(s.size:Int):=by omega
   have hF:=Ylj s K (w.alloc Yem) hs;have hfl:=Zku (s.data.toList.drop K);rw [List.length_drop,Z7] at hfl;obtain ⟨f,hf⟩:∃ f,Vp (s.data.toList.drop K)=f:=⟨_,rfl⟩;rw [hf] at hF hfl;obtain ⟨K2,hK2⟩:∃ K2,K+f=K2:=⟨_,rfl⟩;have E2:(K:Int)+(f:Int)=(K2:Int):=by omega
   have hK2s:(K2:Int)≤(s.size:Int):=by omega
   have hX:=Ymi s K2 (w.alloc Yem) hs;have hxl:=Zv7 (s.data.toList.drop K2);rw [List.length_drop,Z7] at hxl;obtain ⟨x,hx⟩:∃ x,Jl (s.data.toList.drop K2)=x:=⟨_,rfl⟩;rw [hx] at hX hxl;obtain ⟨N,hN⟩:∃ N,K2+x=N:=⟨_,rfl⟩;have E3:(K2:Int)+(x:Int)=(N:Int):=by omega
   have hNs:(N:Int)≤(s.size:Int):=by omega
   have hNum:=Hd (Pn HM.out hW hW0 hK hf hK2 hx hN);have HF:=Hd hF;have HX:=Hd hX;have HN0:Hid (N ≠ 0):=Hd (by omega);have HWD:=Hd hwd;have HK:=Hd hK;have HK2:=Hd hK2;have HN:=Hd hN;clear hF hX hwd hwr hW hK hf hK2 hx hN hz hR hfl hxl hwl hW0 hrl
   go_enter Tryz.func41,Tryz.ntmps41
   go_wp2_with fail
   refine HT.out.mono ?_;rintro e w1 ⟨rfl,rfl⟩;go_wp2_with fail
   refine HD.out.mono ?_;rintro e w1 ⟨rfl,rfl⟩
   go_upto_if 26 with (fail)
   go_cut [5] (fun wv wx=>wv=.int .i64 W∧wx=w.alloc Yem)
   case first =>
    cases hb:(s[m] == 48)
    · obtain ⟨b1,b2⟩:=On hb 48 rfl
      obtain rfl:W=r:=by have:=HWD.out;rw [hb] at this;exact this
      clear hb;go_wp2_with fail
      go_meet
      exact ⟨rfl,rfl⟩
    · obtain ⟨b1,b2⟩:=Oo hb 48 rfl
      obtain rfl:W=1:=by have:=HWD.out;rw [hb] at this;exact this
      clear hb;go_wp2_with fail
      go_meet
      exact ⟨rfl,rfl⟩
   case rest =>
    obtain ⟨rfl,rfl⟩:=hcut
    go_upto_if 35 with (fail)
    refine HF.out.mono ?_;rintro e w1 ⟨rfl,rfl⟩
    go_upto_if 35 with (fail)
    go_cut [4,6] (fun nv kv wx=>nv=.int .i64 K2∧kv=.int .i64 (if f=0 then 3 else 4)∧wx=w.alloc Yem)
    case first =>
      rcases Nat.eq_zero_or_pos f with hz|hz
      · have hz' : ¬ (0:Int) < (f:Int):=by omega
        have HZ:=Hd hz;clear hz;go_wp2_with fail
        go_meet
        exact ⟨by have:=HK2.out;have:=HZ.out;congr 1;omega,by rw [if_pos HZ.out],rfl⟩
      · have hz':(0:Int) < (f:Int):=by omega
        have HZ:=Hd hz;clear hz;go_wp2_with fail
        go_meet
        exact ⟨rfl,by have:=HZ.out;rw [if_neg (by omega)],rfl⟩
    case rest =>
      obtain ⟨rfl,rfl,rfl⟩:=hcut;obtain ⟨k1,hk1⟩:∃ k1:Int,(if f=0 then 3 else 4:Int)=k1:=⟨_,rfl⟩;rw [hk1];have HK1:=Hd hk1;clear hk1
      go_upto_if 44 with (fail)
      refine HX.out.mono ?_;rintro e w1 ⟨rfl,rfl⟩
      go_upto_if 44 with (fail)
      go_cut [4,6] (fun nv kv wx=>nv=.int .i64 N∧kv=.int .i64 (if f=0∧x=0 then 3 else 4)∧wx=w.alloc Yem)
      case first =>
        rcases Nat.eq_zero_or_pos x with hz|hz
        · have hz' : ¬ (0:Int) < (x:Int):=by omega
          have HZ:=Hd hz;clear hz;go_wp2_with fail
          go_meet
          exact ⟨by have:=HN.out;have:=HZ.out;congr 1;omega,by rw [← HK1.out];have:=HZ.out;simp [this],rfl⟩
        · have hz':(0:Int) < (x:Int):=by omega
          have HZ:=Hd hz;clear hz;go_wp2_with fail
          go_meet
          exact ⟨rfl,by have:=HZ.out;rw [if_neg (by omega)],rfl⟩
      case rest =>
        obtain ⟨rfl,rfl,rfl⟩:=hcut;obtain ⟨k2,hk2⟩:∃ k2:Int,(if f=0∧x=0 then 3 else 4:Int)=k2:=⟨_,rfl⟩;rw [hk2];have hnum:=hNum.out;rw [hk2] at hnum;have HNU:=Hd hnum;clear hk2 hnum hNum HK1;have HDG:=Hd (Ta s N (w.alloc Yem));have HLT:=Hd (Nw s N (w.alloc Yem));have hbh:=Zjm (s.data.toList.drop N)
        cases hd:Jh Ip (s.data.toList.drop N)
        · cases hl:Jh Wf (s.data.toList.drop N)
          · cases hp:Jh (fun b=>b == 46) (s.data.toList.drop N)
            · have HP:=Hd (Yjx s N (w.alloc Yem) false hp)
              have hr:=Hd (Zj0 HNU.out HN0.out (by rw [hbh,hd,hl,hp];rfl));have hd':=Hd hd;have hl':=Hd hl;clear hbh hd hl hp;go_wp2_with fail
              refine HDG.out.mono ?_;rintro e w1 ⟨rfl,rfl⟩;rw [hd'.out];go_wp2_with fail
              refine HLT.out.mono ?_;rintro e w1 ⟨rfl,rfl⟩;rw [hl'.out];go_wp2_with fail
              refine HP.out.mono ?_;rintro e w1 ⟨rfl,rfl⟩;go_wp2_with fail
              refine Jk rfl rfl rfl (heap_alloc_last _ _) ⟨?_,Y5⟩;rw [hr.out,Il HN0.out];exact Ymu (Gc (Cv s N)).symm rfl
            · have HP:=Hd (Yjx s N (w.alloc Yem) true hp)
              have hr:=Hd (Oc HNU.out (by rw [hbh,hd,hl,hp];rfl));have hd':=Hd hd;have hl':=Hd hl;clear hbh hd hl hp;go_wp2_with fail
              refine HDG.out.mono ?_;rintro e w1 ⟨rfl,rfl⟩;rw [hd'.out];go_wp2_with fail
              refine HLT.out.mono ?_;rintro e w1 ⟨rfl,rfl⟩;rw [hl'.out];go_wp2_with fail
              refine HP.out.mono ?_;rintro e w1 ⟨rfl,rfl⟩;go_wp2_with fail
              refine Jk rfl rfl rfl (heap_alloc_last _ _) ⟨?_,Y5⟩;rw [hr.out]
              rfl
          · have hr:=Hd (Oc HNU.out (by rw [hbh,hd,hl];rfl))
            have hd':=Hd hd;have hl':=Hd hl;clear hbh hd hl;go_wp2_with fail
            refine HDG.out.mono ?_;rintro e w1 ⟨rfl,rfl⟩;rw [hd'.out];go_wp2_with fail
            refine HLT.out.mono ?_;rintro e w1 ⟨rfl,rfl⟩;rw [hl'.out];go_wp2_with fail
            refine Jk rfl rfl rfl (heap_alloc_last _ _) ⟨?_,Y5⟩;rw [hr.out]
            rfl
        · have hr:=Hd (Oc HNU.out (by rw [hbh,hd];rfl))
          have hd':=Hd hd;clear hbh hd;go_wp2_with fail
          refine HDG.out.mono ?_;rintro e w1 ⟨rfl,rfl⟩;rw [hd'.out];go_wp2_with fail
          refine Jk rfl rfl rfl (heap_alloc_last _ _) ⟨?_,Y5⟩;rw [hr.out]
          rfl
end Go.Proofs.YtkmloefbkgcbkaaGreatDoor
