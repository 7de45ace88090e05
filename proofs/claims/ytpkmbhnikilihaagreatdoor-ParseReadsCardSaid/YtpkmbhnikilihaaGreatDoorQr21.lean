/- The document's own next: the token that begins at a place. -/
import Derived.Test.YtpkmbhnikilihaaGreatDoorQr20
set_option maxRecDepth 100000
set_option maxHeartbeats 8000000
namespace Go.Proofs.YtpkmbhnikilihaaGreatDoor
open Go.RowKit
theorem Yg (w:World) (o o':Obj):((w.alloc o).alloc o').heap[w.heap.size]? = some o∧((w.alloc o).alloc o').heap[w.heap.size+1]? = some o'∧Below w.heap.size w ((w.alloc o).alloc o'):=by
 have h2:=heap_alloc_last (w.alloc o) o'
 have e:(w.alloc o).heap.size=w.heap.size+1:=by simp
 rw [e] at h2
 have b1:Below w.heap.size w (w.alloc o):=(Below.refl _ _).alloc (Nat.le_refl _) _
 have b2:Below (w.alloc o).heap.size (w.alloc o) ((w.alloc o).alloc o'):=(Below.refl _ _).alloc (Nat.le_refl _) _
 exact ⟨(b2.block w.heap.size (by omega)).trans (heap_alloc_last w o),h2,b1.trans (b2.mono (by omega))⟩
theorem J3 {R:Ending→World→Prop} {fn:Func} {a:Act} {W:World} {k v:Value} {b:Nat} (hf:fn.results=#[.cell 4 70,.tmp 5,.tmp 6]) (h2:a.tmps.getD 4 undef=.pointer (some ⟨b,0,none⟩)) (hd:a.defers=[])
  (hc:W.heap[b]? = some (.cells #[k,v] 70 (0,0))) (hR:R (.returned (.tuple #[.agg #[k,v],a.tmps.getD 5 undef,a.tmps.getD 6 undef])) W):bodyPost Tryz.prog fn R .ret a W:=by
 have hl:(loadVar 70 ⟨b,0,none⟩).run Tryz.prog W=.ok (.agg #[k,v]) W:=
  run_loadVar_row W b 70 70 #[k,v] (0,0) _ hc Tryz.underlying70 rfl (by kernel_rfl)
 refine bodyPost_ret ?_ hd hR
 have h2':a.tmps[4]?.getD undef=.pointer (some ⟨b,0,none⟩):=by rw [← h2];simp
 simp [results,hf,h2',asAddr,hl]
def Zkl (i:Nat) (o:Option ((Int × List UInt8) × Nat)) (e:Ending):Prop:=
 match o with
 | some p=>e=.returned (.tuple #[.agg #[.int .i64 p.1.1,.string ⟨p.1.2.toArray⟩],.int .i64 ((i+p.2:Nat):Int),.bool true])
 | none=>∃ (a:Int) (b:ByteArray) (k:Int),e=.returned (.tuple #[.agg #[.int .i64 a,.string b],.int .i64 k,.bool false])
theorem Tm {l:List UInt8} (h:pre [46,46,46] l=true):J4 l=3:=by
 cases l with
 | nil=>cases h
 | cons b t=>rw [J4,if_pos h]
theorem Zz6 {l:List UInt8} (h:pre [46,46,46] l=true):Lb l=some ((1,[46,46,46]),3):=by
 have h3:l.take 3=[46,46,46]:=by
  unfold pre at h
  rw [List.isPrefixOf_iff_prefix] at h
  obtain ⟨t,rfl⟩:=h
  rfl
 rw [Lb,Tm h,if_pos (by decide),h3]
theorem Zqm {b:UInt8} {t:List UInt8} (h:pre [46,46,46] (b :: t)=false) (hm:Vc b=true):Lb (b :: t)=some ((1,[b]),1):=by
 have e:J4 (b :: t)=1:=by rw [J4,h,hm];rfl
 rw [Lb,e,if_pos (by decide)];rfl
theorem Ir {b:UInt8} {t:List UInt8} (h:pre [46,46,46] (b :: t)=false) (hm:Vc b=false):J4 (b :: t)=0:=by rw [J4,h,hm];rfl
theorem Bd {b:UInt8} {t:List UInt8} (h:b=34):(nbL (b :: t)).1=0:=by
 subst h
 have:nmL (34 :: t)=(0,0):=by
  unfold nmL
  have e:Zm (34 :: t)=0:=rfl
  rw [e,List.drop_zero]
  have e2:Y4 (34 :: t)=0:=by
   rw [Y4,if_neg (by decide),Xe,List.takeWhile_cons,if_neg (by decide)];rfl
  rw [e2,if_pos rfl]
 rw [nbL,this];rfl
theorem Ei {b:UInt8} {t:List UInt8} (h:Wj b=false):Ji (b :: t)=0:=by rw [Ji,h];rfl
theorem S8 {b:UInt8} {t:List UInt8} (h:b=34) (hp:pre [34,34,34] (b :: t)=true):Lb (b :: t)=(P8 ((b :: t).drop 3)).map fun q=>((5,Blk.valueL q.1),3+q.2):=by
 have h1:pre [46,46,46] (b :: t)=false:=by subst h;rfl
 have h2:Vc b=false:=by subst h;decide
 have h3:Wj b=false:=by subst h;decide
 rw [Lb,Ir h1 h2,Ei h3,Bd h]
 simp only [ne_eq,not_true_eq_false,if_false]
 rw [Xq,if_pos hp,Option.map_map]
 rfl
theorem Ti {b:UInt8} {t:List UInt8} (h:b=34) (hp:pre [34,34,34] (b :: t)=false):Lb (b :: t)=(J5 t).map fun q=>((5,q.1),1+q.2):=by
 have h1:pre [46,46,46] (b :: t)=false:=by subst h;rfl
 have h2:Vc b=false:=by subst h;decide
 have h3:Wj b=false:=by subst h;decide
 rw [Lb,Ir h1 h2,Ei h3,Bd h]
 simp only [ne_eq,not_true_eq_false,if_false]
 rw [Xq,hp,if_neg (by decide),if_pos (by subst h;decide),Option.map_map]
 rfl
theorem Zzb {b:UInt8} {t:List UInt8} (h1:pre [46,46,46] (b :: t)=false) (h2:Vc b=false) (h3:Wj b=true):Lb (b :: t)=some ((2,(b :: t).take ((b :: t).takeWhile If).length),((b :: t).takeWhile If).length):=by
 have e:Ji (b :: t)=((b :: t).takeWhile If).length:=by
  rw [Ji,if_pos h3,List.takeWhile_cons,if_pos (by simp [If,h3]),List.length_cons];omega
 have hne:Ji (b :: t) ≠ 0:=by rw [Ji,if_pos h3];omega
 rw [Lb,Ir h1 h2]
 simp only [ne_eq,not_true_eq_false,if_false]
 rw [if_pos hne,e]
theorem Zxb {b:UInt8} {t:List UInt8} (h1:pre [46,46,46] (b :: t)=false) (h2:Vc b=false) (h3:Wj b=false) (h4:b ≠ 34):Lb (b :: t)=if (nbL (b :: t)).1 ≠ 0 then some (((nbL (b :: t)).2,(b :: t).take (nbL (b :: t)).1),(nbL (b :: t)).1) else none:=by
 rw [Lb,Ir h1 h2,Ei h3]
 simp only [ne_eq,not_true_eq_false,if_false]
 split
 · rfl
 · have hp:pre [34,34,34] (b :: t)=false:=by
    cases hp:pre [34,34,34] (b :: t) with
    | false=>rfl
    | true=>exact absurd (by unfold pre at hp;simp at hp;exact hp.1.symm) h4
   rw [Xq,hp,if_neg (by decide),if_neg (by simpa using h4)];rfl
theorem Tp {b:UInt8} {t:List UInt8} (h:pre [34,34,34] (b :: t)=true):b=34:=by
 unfold pre at h;simp at h;exact h.1.symm
theorem Zkb (s:ByteArray) (a c E:Nat) (h:a+c=E):(s.extract a E).data.toList=(s.data.toList.drop a).take c:=by
 subst h
 simp [ByteArray.data_extract,Array.toList_extract,List.extract]
theorem J7 {y:ByteArray} {k:Int} {i n:Nat} {m:Int} {l:List UInt8} (hx:(⟨l.toArray⟩:ByteArray)=y) (h:((i+n:Nat):Int)=m):Zkl i (some ((k,l),n)) (.returned (.tuple #[.agg #[.int .i64 k,.string y],.int .i64 m,.bool true])):=by rw [← hx,← h];rfl
abbrev Yng:Obj:=.cells #[.int .i64 0,.string ⟨#[]⟩] 70
theorem Yc8 (s : ByteArray) (i:Nat) (w:World) (hs:s.size≤9000) (hi:i < s.size) (hg:Zi s.data.toList=true) :
   Calls Tryz.prog 102 #[.string s,.int .i64 i] w fun e w'=>Zkl i (Lb (s.data.toList.drop i)) e∧Below w.heap.size w w':=by
 obtain ⟨h0,h1,hb0⟩:=Yg w Yng Yng
 have H0:=Hd h0
 have H1:=Hd h1
 have HB0:=Hd hb0
 obtain ⟨z0,z1,zf0,zf1⟩:=Jv h0
 obtain ⟨y0,y1,yf0,yf1⟩:=Jv h1
 have HD:=fun w=>Hd (I0 s ⟨#[46,46,46]⟩ i w hs (by show 3≤9000;omega) (by omega))
 have HQ:=fun w=>Hd (I0 s ⟨#[34,34,34]⟩ i w hs (by show 3≤9000;omega) (by omega))
 have HI:=fun w=>Hd (Tq s[i] w)
 have hdr:=Z9 s i hi
 have hi0:(0:Int)≤(i:Int):=by omega
 have hi':(i:Int) < (s.size:Int):=by omega
 clear h0 h1 hb0
 cases hd:pre [46,46,46] (s.data.toList.drop i)
 · rw [show pre (⟨#[46,46,46]⟩:ByteArray).data.toList (s.data.toList.drop i)=false from hd] at HD
   cases hmk:Vc s[i]
   · cases hq:pre [34,34,34] (s.data.toList.drop i)
     · rw [show pre (⟨#[34,34,34]⟩:ByteArray).data.toList (s.data.toList.drop i)=false from hq] at HQ
       by_cases h34:s[i]=34
       · have e34:((s[i].toNat:Int) == 34)=true:=by rw [h34];rfl
         have hv:=Ti (t:=s.data.toList.drop (i+1)) h34 (by rw [← hdr];exact hq)
         rw [← hdr] at hv
         have HL:=fun w=>Hd (Zz5 s (i+1) w hs (by omega) (Yid hg hi (by rw [h34];decide)))
         have c1:((i+1:Nat):Int)=(i:Int)+1:=by omega
         rw [c1] at HL
         cases hl:J5 (s.data.toList.drop (i+1)) with
         | none =>
           rw [hl] at HL hv
           have HV:=Hd hv
           have hmk':=Hd hmk
           rw [show qV [] (i+1) none=.tuple #[.string ⟨#[]⟩,.int .i64 0,.bool false] from rfl] at HL
           clear hv hl hdr hd hq h34
           go_enter Tryz.func102,Tryz.ntmps102
           go_wp2_with fail
           refine (HD _).out.mono ?_
           rintro e w1 ⟨rfl,rfl⟩
           go_wp2_with fail
           refine (HI _).out.mono ?_
           rintro e w1 ⟨r,rfl,hr,rfl⟩
           have hr0 : ¬ r ≥ 0:=by
             rw [hmk] at hr
             simpa using hr
           clear hr HI
           go_wp2_with fail
           refine (HQ _).out.mono ?_
           rintro e w1 ⟨rfl,rfl⟩
           go_wp2_with fail
           refine (HL _).out.mono ?_
           rintro e w2 ⟨rfl,hb2⟩
           have B0:=Hd ((hb2.block w.heap.size (by simp;omega)).trans H0.out)
           have BB:=Hd (HB0.out.trans (hb2.mono (by simp;omega)))
           obtain ⟨z0,z1,zf0,zf1⟩:=Jv B0.out
           clear hb2 HL
           go_wp2_with fail
           refine J3 rfl rfl rfl (Ej B0.out) ⟨?_,(BB.out.setCell (Nat.le_refl _) _).setCell (Nat.le_refl _) _⟩
           rw [HV.out]
           exact ⟨_,_,_,rfl⟩
         | some q =>
           rw [hl] at HL hv
           have HV:=Hd hv
           have hmk':=Hd hmk
           obtain ⟨X,hX⟩:∃ X:ByteArray,(⟨q.1.toArray⟩:ByteArray)=X:=⟨_,rfl⟩
           rw [show qV [] (i+1) (some q)=.tuple #[.string X,.int .i64 ((i+1+q.2:Nat):Int),.bool true] by rw [← hX];rfl] at HL
           obtain ⟨E,hE⟩:∃ E,i+1+q.2=E:=⟨_,rfl⟩
           rw [hE] at HL
           have HX:=Hd hX
           have HE:=Hd hE
           clear hv hl hdr hd hq h34 hX hE
           go_enter Tryz.func102,Tryz.ntmps102
           go_wp2_with fail
           refine (HD _).out.mono ?_
           rintro e w1 ⟨rfl,rfl⟩
           go_wp2_with fail
           refine (HI _).out.mono ?_
           rintro e w1 ⟨r,rfl,hr,rfl⟩
           have hr0 : ¬ r ≥ 0:=by
             rw [hmk] at hr
             simpa using hr
           clear hr HI
           go_wp2_with fail
           refine (HQ _).out.mono ?_
           rintro e w1 ⟨rfl,rfl⟩
           go_wp2_with fail
           refine (HL _).out.mono ?_
           rintro e w2 ⟨rfl,hb2⟩
           have B0:=Hd ((hb2.block w.heap.size (by simp;omega)).trans H0.out)
           have BB:=Hd (HB0.out.trans (hb2.mono (by simp;omega)))
           obtain ⟨z0,z1,zf0,zf1⟩:=Jv B0.out
           clear hb2 HL
           go_wp2_with fail
           refine J3 rfl rfl rfl (Ej B0.out) ⟨?_,(BB.out.setCell (Nat.le_refl _) _).setCell (Nat.le_refl _) _⟩
           rw [HV.out]
           exact J7 HX.out (by have:=HE.out;omega)
       · have e34:((s[i].toNat:Int) == 34)=false:=Xm (n:=34) (by omega) h34
         cases hlet:Wj s[i]
         · -- a number,or nothing
           have HS:=fun w=>Hd (Wa (s[i].toNat:Int) w)
           rw [show Qw (s[i].toNat:Int)=false from hlet] at HS
           have hv:=Zxb (t:=s.data.toList.drop (i+1)) (by rw [← hdr];exact hd) hmk hlet h34
           rw [← hdr] at hv
           have HN:=fun w=>Hd (Sj (s.extract i s.size) w (by rw [Us];omega))
           rw [Xl] at HN
           obtain ⟨n,hn⟩:∃ n,(nmL (s.data.toList.drop i)).1=n:=⟨_,rfl⟩
           obtain ⟨kd,hkd⟩:∃ kd,(nmL (s.data.toList.drop i)).2=kd:=⟨_,rfl⟩
           have hnl:=L6 (s.data.toList.drop i)
           rw [List.length_drop,Z6,hn] at hnl
           rw [hn,hkd] at HN
           have hnum:nbL (s.data.toList.drop i)=if n=0 then (0,0) else if Vl (s.data.toList.drop (i+n)) then (0,0) else (n,kd):=by
             rw [nbL,hn,List.drop_drop,← hn,← hkd]
           have hmk':=Hd hmk
           by_cases hn0:n=0
           · have en:((n:Int) == 0)=true:=by simp;omega
             have HV:Hid (Lb (s.data.toList.drop i)=none):=Hd (by rw [hv,hnum,if_pos hn0];rfl)
             clear hv hnum hdr hd hq h34 hlet hn hkd
             go_enter Tryz.func102,Tryz.ntmps102
             go_wp2_with fail
             refine (HD _).out.mono ?_
             rintro e w1 ⟨rfl,rfl⟩
             go_wp2_with fail
             refine (HI _).out.mono ?_
             rintro e w1 ⟨r,rfl,hr,rfl⟩
             have hr0 : ¬ r ≥ 0:=by
               rw [hmk] at hr
               simpa using hr
             clear hr HI
             go_wp2_with fail
             refine (HQ _).out.mono ?_
             rintro e w1 ⟨rfl,rfl⟩
             go_wp2_with fail
             refine (HS _).out.mono ?_
             rintro e w1 ⟨rfl,rfl⟩
             go_wp2_with fail
             refine (HN _).out.mono ?_
             rintro e w1 ⟨rfl,rfl⟩
             go_wp2_with fail
             refine J3 rfl rfl rfl (Yg _ _ _).1 ⟨?_,(Yg _ _ _).2.2⟩
             rw [HV.out]
             exact ⟨_,_,_,rfl⟩
           · have en : ((n:Int) == 0)=false:=by simp;omega
             obtain ⟨E,hE⟩:∃ E,i+n=E:=⟨_,rfl⟩
             have gE:(i:Int)+(n:Int)=(E:Int):=by omega
             have g0:(0:Int)≤(E:Int):=by omega
             have g2:(i:Int)≤(E:Int):=by omega
             have g3:(E:Int)≤(s.size:Int):=by omega
             rw [hE] at hnum
             have HX:Hid ((⟨((s.data.toList.drop i).take n).toArray⟩:ByteArray)=s.extract i E):=Hd (Gz (Zkb s i n E hE))
             have HE:=Hd hE
             rw [if_neg hn0] at hnum
             have YES:Vl (s.data.toList.drop E)=false→Lb (s.data.toList.drop i)=some ((kd,(s.data.toList.drop i).take n),n):=fun hbh=>by
               rw [hv,hnum,hbh]
               simp [hn0]
             have NOT:Vl (s.data.toList.drop E)=true→Lb (s.data.toList.drop i)=none:=fun hbh=>by
               rw [hv,hnum,hbh]
               simp
             clear hv hnum hd hq hdr
             by_cases hEl:E < s.size
             · have hEl':(E:Int) < (s.size:Int):=by omega
               have hdE:=Z9 s E hEl
               have HSE:=fun w=>Hd (Wa (s[E].toNat:Int) w)
               have HDE:=fun w=>Hd (Uu (s[E].toNat:Int) w)
               cases hle:Qw (s[E].toNat:Int)
               · cases hde:Qt (s[E].toNat:Int)
                 · rw [hle] at HSE
                   rw [hde] at HDE
                   by_cases h46:s[E]=46
                   · have e46:((s[E].toNat:Int) == 46)=true:=by rw [h46];rfl
                     have HV:=Hd (NOT (by rw [hdE,h46];rfl))
                     clear YES NOT hdE h46 hlet hn hkd h34 hle hde
                     go_enter Tryz.func102,Tryz.ntmps102
                     go_wp2_with fail
                     refine (HD _).out.mono ?_
                     rintro e w1 ⟨rfl,rfl⟩
                     go_wp2_with fail
                     refine (HI _).out.mono ?_
                     rintro e w1 ⟨r,rfl,hr,rfl⟩
                     have hr0 : ¬ r ≥ 0:=by
                      rw [hmk] at hr
                      simpa using hr
                     clear hr HI
                     go_wp2_with fail
                     refine (HQ _).out.mono ?_
                     rintro e w1 ⟨rfl,rfl⟩
                     go_wp2_with fail
                     refine (HS _).out.mono ?_
                     rintro e w1 ⟨rfl,rfl⟩
                     go_wp2_with fail
                     refine (HN _).out.mono ?_
                     rintro e w1 ⟨rfl,rfl⟩
                     go_wp2_with fail
                     refine (HSE _).out.mono ?_
                     rintro e w1 ⟨rfl,rfl⟩
                     go_wp2_with fail
                     refine (HDE _).out.mono ?_
                     rintro e w1 ⟨rfl,rfl⟩
                     go_wp2_with fail
                     refine J3 rfl rfl rfl (Yg _ _ _).1 ⟨?_,(Yg _ _ _).2.2⟩
                     rw [HV.out]
                     exact ⟨_,_,_,rfl⟩
                   · have e46:((s[E].toNat:Int) == 46)=false:=Xm (n:=46) (by omega) h46
                     have HV:=Hd (YES (by rw [hdE];simp [Vl,Iu,Wj,hle,hde,h46]))
                     clear YES NOT hdE h46 hlet hn hkd h34 hle hde
                     go_enter Tryz.func102,Tryz.ntmps102
                     go_wp2_with fail
                     refine (HD _).out.mono ?_
                     rintro e w1 ⟨rfl,rfl⟩
                     go_wp2_with fail
                     refine (HI _).out.mono ?_
                     rintro e w1 ⟨r,rfl,hr,rfl⟩
                     have hr0 : ¬ r ≥ 0:=by
                      rw [hmk] at hr
                      simpa using hr
                     clear hr HI
                     go_wp2_with fail
                     refine (HQ _).out.mono ?_
                     rintro e w1 ⟨rfl,rfl⟩
                     go_wp2_with fail
                     refine (HS _).out.mono ?_
                     rintro e w1 ⟨rfl,rfl⟩
                     go_wp2_with fail
                     refine (HN _).out.mono ?_
                     rintro e w1 ⟨rfl,rfl⟩
                     go_wp2_with fail
                     refine (HSE _).out.mono ?_
                     rintro e w1 ⟨rfl,rfl⟩
                     go_wp2_with fail
                     refine (HDE _).out.mono ?_
                     rintro e w1 ⟨rfl,rfl⟩
                     go_wp2_with fail
                     refine J3 rfl rfl rfl (Yg _ _ _).1 ⟨?_,(Yg _ _ _).2.2⟩
                     rw [HV.out]
                     exact J7 HX.out (by have:=HE.out;omega)
                 · rw [hle] at HSE
                   rw [hde] at HDE
                   have HV:=Hd (NOT (by rw [hdE];simp [Vl,Iu,hde]))
                   clear YES NOT hdE hlet hn hkd h34 hle hde
                   go_enter Tryz.func102,Tryz.ntmps102
                   go_wp2_with fail
                   refine (HD _).out.mono ?_
                   rintro e w1 ⟨rfl,rfl⟩
                   go_wp2_with fail
                   refine (HI _).out.mono ?_
                   rintro e w1 ⟨r,rfl,hr,rfl⟩
                   have hr0 : ¬ r ≥ 0:=by
                     rw [hmk] at hr
                     simpa using hr
                   clear hr HI
                   go_wp2_with fail
                   refine (HQ _).out.mono ?_
                   rintro e w1 ⟨rfl,rfl⟩
                   go_wp2_with fail
                   refine (HS _).out.mono ?_
                   rintro e w1 ⟨rfl,rfl⟩
                   go_wp2_with fail
                   refine (HN _).out.mono ?_
                   rintro e w1 ⟨rfl,rfl⟩
                   go_wp2_with fail
                   refine (HSE _).out.mono ?_
                   rintro e w1 ⟨rfl,rfl⟩
                   go_wp2_with fail
                   refine (HDE _).out.mono ?_
                   rintro e w1 ⟨rfl,rfl⟩
                   go_wp2_with fail
                   refine J3 rfl rfl rfl (Yg _ _ _).1 ⟨?_,(Yg _ _ _).2.2⟩
                   rw [HV.out]
                   exact ⟨_,_,_,rfl⟩
               · rw [hle] at HSE
                 have HV:=Hd (NOT (by rw [hdE];simp [Vl,Wj,hle]))
                 clear YES NOT hdE hlet hn hkd h34 hle
                 go_enter Tryz.func102,Tryz.ntmps102
                 go_wp2_with fail
                 refine (HD _).out.mono ?_
                 rintro e w1 ⟨rfl,rfl⟩
                 go_wp2_with fail
                 refine (HI _).out.mono ?_
                 rintro e w1 ⟨r,rfl,hr,rfl⟩
                 have hr0 : ¬ r ≥ 0:=by
                   rw [hmk] at hr
                   simpa using hr
                 clear hr HI
                 go_wp2_with fail
                 refine (HQ _).out.mono ?_
                 rintro e w1 ⟨rfl,rfl⟩
                 go_wp2_with fail
                 refine (HS _).out.mono ?_
                 rintro e w1 ⟨rfl,rfl⟩
                 go_wp2_with fail
                 refine (HN _).out.mono ?_
                 rintro e w1 ⟨rfl,rfl⟩
                 go_wp2_with fail
                 refine (HSE _).out.mono ?_
                 rintro e w1 ⟨rfl,rfl⟩
                 go_wp2_with fail
                 refine J3 rfl rfl rfl (Yg _ _ _).1 ⟨?_,(Yg _ _ _).2.2⟩
                 rw [HV.out]
                 exact ⟨_,_,_,rfl⟩
             · have hEl' : ¬ (E:Int) < (s.size:Int):=by omega
               have HV:=Hd (YES (by rw [Yp s E (by omega)];rfl))
               clear YES NOT hlet hn hkd h34
               go_enter Tryz.func102,Tryz.ntmps102
               go_wp2_with fail
               refine (HD _).out.mono ?_
               rintro e w1 ⟨rfl,rfl⟩
               go_wp2_with fail
               refine (HI _).out.mono ?_
               rintro e w1 ⟨r,rfl,hr,rfl⟩
               have hr0 : ¬ r ≥ 0:=by
                 rw [hmk] at hr
                 simpa using hr
               clear hr HI
               go_wp2_with fail
               refine (HQ _).out.mono ?_
               rintro e w1 ⟨rfl,rfl⟩
               go_wp2_with fail
               refine (HS _).out.mono ?_
               rintro e w1 ⟨rfl,rfl⟩
               go_wp2_with fail
               refine (HN _).out.mono ?_
               rintro e w1 ⟨rfl,rfl⟩
               go_wp2_with fail
               refine J3 rfl rfl rfl (Yg _ _ _).1 ⟨?_,(Yg _ _ _).2.2⟩
               rw [HV.out]
               exact J7 HX.out (by have:=HE.out;omega)
         · -- a word
           have HS:=fun w=>Hd (Wa (s[i].toNat:Int) w)
           rw [show Qw (s[i].toNat:Int)=true from hlet] at HS
           have hv:=Zzb (t:=s.data.toList.drop (i+1)) (by rw [← hdr];exact hd) hmk hlet
           rw [← hdr] at hv
           obtain ⟨n,hn⟩:∃ n,((s.data.toList.drop i).takeWhile If).length=n:=⟨_,rfl⟩
           rw [hn] at hv
           have hnl:n≤s.size - i:=by
             have:=Va If (s.data.toList.drop i)
             rw [hn,List.length_drop,Z6] at this
             exact this
           obtain ⟨E,hE⟩:∃ E,i+n=E:=⟨_,rfl⟩
           have g2:(i:Int)≤(E:Int):=by omega
           have g3:(E:Int)≤(s.size:Int):=by omega
           have HX:Hid ((⟨((s.data.toList.drop i).take n).toArray⟩:ByteArray)=s.extract i E):=Hd (Gz (Zkb s i n E hE))
           have HE:=Hd hE
           have HV:=Hd hv
           have HNn:=Hd hn
           have hmk':=Hd hmk
           clear hv hdr hd hq h34 hlet hn hE
           go_enter Tryz.func102,Tryz.ntmps102
           go_wp2_with fail
           refine (HD _).out.mono ?_
           rintro e w1 ⟨rfl,rfl⟩
           go_wp2_with fail
           refine (HI _).out.mono ?_
           rintro e w1 ⟨r,rfl,hr,rfl⟩
           have hr0 : ¬ r ≥ 0:=by
             rw [hmk] at hr
             simpa using hr
           clear hr HI
           go_wp2_with fail
           refine (HQ _).out.mono ?_
           rintro e w1 ⟨rfl,rfl⟩
           go_wp2_with fail
           refine (HS _).out.mono ?_
           rintro e w1 ⟨rfl,rfl⟩
           clear HS HQ HD hr0
           go_wp2_with fail
           go_loopg [14] (s.size - i) (fun g jv wx=>∃ j:Nat,i≤j∧j+g=s.size∧jv=.int .i64 j∧Aside (j - i≤((s.data.toList.drop i).takeWhile If).length)∧wx=(w.alloc Yng).alloc Yng)
           case atStart=>exact ⟨i,Nat.le_refl _,by omega,rfl,Aside.intro (by omega),rfl⟩
           case round =>
             obtain ⟨j,hij,hjg,rfl,HJ,rfl⟩:=hrel
             have hj0:(0:Int)≤(j:Int):=by omega
             by_cases hjl:j < s.size
             · have hjl':(j:Int) < (s.size:Int):=by omega
               have hat:(s.data.toList.drop i)[j - i]? = some s[j]:=by
                 rw [List.getElem?_drop,show i+(j - i)=j by omega];exact Qq s j hjl
               have HSE:=fun w=>Hd (Wa (s[j].toNat:Int) w)
               have HDE:=fun w=>Hd (Uu (s[j].toNat:Int) w)
               cases hle:Qw (s[j].toNat:Int)
               · cases hde:Qt (s[j].toNat:Int)
                 · obtain rfl:j=E:=by
                     have h1:=Ph HJ.out hat (by simp [If,Wj,Iu,hle,hde])
                     have h2:=HNn.out
                     have h3:=HE.out
                     omega
                   rw [hle] at HSE
                   rw [hde] at HDE
                   clear HJ hat hle hde
                   go_wp2_with fail
                   refine (HSE _).out.mono ?_
                   rintro e w1 ⟨rfl,rfl⟩
                   go_wp2_with fail
                   refine (HDE _).out.mono ?_
                   rintro e w1 ⟨rfl,rfl⟩
                   go_wp2_with fail
                   refine J3 rfl rfl rfl (Yg _ _ _).1 ⟨?_,(Yg _ _ _).2.2⟩
                   rw [HV.out]
                   exact J7 HX.out (by have:=HE.out;omega)
                 · have hnx:=Hd (Qi HJ.out hat (by simp [If,Iu,hde]))
                   rw [hle] at HSE
                   rw [hde] at HDE
                   clear HJ hat hle hde
                   go_wp2_with fail
                   refine (HSE _).out.mono ?_
                   rintro e w1 ⟨rfl,rfl⟩
                   go_wp2_with fail
                   refine (HDE _).out.mono ?_
                   rintro e w1 ⟨rfl,rfl⟩
                   go_wp2_with fail
                   go_roundg (gk - 1)
                   case measure=>omega
                   case rel=>exact ⟨j+1,by omega,by omega,by go_num,Aside.intro (by have:=hnx.out;omega),rfl⟩
               · have hnx:=Hd (Qi HJ.out hat (by simp [If,Wj,hle]))
                 rw [hle] at HSE
                 clear HJ hat hle
                 go_wp2_with fail
                 refine (HSE _).out.mono ?_
                 rintro e w1 ⟨rfl,rfl⟩
                 go_wp2_with fail
                 go_roundg (gk - 1)
                 case measure=>omega
                 case rel=>exact ⟨j+1,by omega,by omega,by go_num,Aside.intro (by have:=hnx.out;omega),rfl⟩
             · obtain rfl:j=E:=by
                 have h1:=Yde HJ.out (by rw [List.length_drop,Z6];omega)
                 have h2:=HNn.out
                 have h3:=HE.out
                 omega
               have hjl' : ¬ (j:Int) < (s.size:Int):=by omega
               clear HJ
               go_wp2_with fail
               refine J3 rfl rfl rfl (Yg _ _ _).1 ⟨?_,(Yg _ _ _).2.2⟩
               rw [HV.out]
               exact J7 HX.out (by have:=HE.out;omega)
     · rw [show pre (⟨#[34,34,34]⟩:ByteArray).data.toList (s.data.toList.drop i)=true from hq] at HQ
       have h34:s[i]=34:=Tp (t:=s.data.toList.drop (i+1)) (by rw [← hdr];exact hq)
       have hv:=S8 (t:=s.data.toList.drop (i+1)) h34 (by rw [← hdr];exact hq)
       rw [← hdr,List.drop_drop] at hv
       have h3:i+3≤s.size:=by
         have:=Vk hq
         rw [List.length_drop,Z6] at this
         simp at this
         omega
       have HL:=fun w=>Hd (Tc s (i+3) w hs h3)
       have c1:((i+3:Nat):Int)=(i:Int)+3:=by omega
       rw [c1] at HL
       cases hl:P8 (s.data.toList.drop (i+3)) with
       | none =>
         rw [hl] at HL hv
         have HV:=Hd hv
         have hmk':=Hd hmk
         rw [show bV [] (i+3) none=.tuple #[.string ⟨#[]⟩,.int .i64 0,.bool false] from rfl] at HL
         clear hv hl hdr hd hq h34
         go_enter Tryz.func102,Tryz.ntmps102
         go_wp2_with fail
         refine (HD _).out.mono ?_
         rintro e w1 ⟨rfl,rfl⟩
         go_wp2_with fail
         refine (HI _).out.mono ?_
         rintro e w1 ⟨r,rfl,hr,rfl⟩
         have hr0 : ¬ r ≥ 0:=by
           rw [hmk] at hr
           simpa using hr
         clear hr HI
         go_wp2_with fail
         refine (HQ _).out.mono ?_
         rintro e w1 ⟨rfl,rfl⟩
         go_wp2_with fail
         refine (HL _).out.mono ?_
         rintro e w2 ⟨rfl,hb2⟩
         have B0:=Hd ((hb2.block w.heap.size (by simp;omega)).trans H0.out)
         have BB:=Hd (HB0.out.trans (hb2.mono (by simp;omega)))
         obtain ⟨z0,z1,zf0,zf1⟩:=Jv B0.out
         clear hb2 HL
         go_wp2_with fail
         refine J3 rfl rfl rfl (Ej B0.out) ⟨?_,(BB.out.setCell (Nat.le_refl _) _).setCell (Nat.le_refl _) _⟩
         rw [HV.out]
         exact ⟨_,_,_,rfl⟩
       | some q =>
         rw [hl] at HL hv
         have HV:=Hd hv
         have hmk':=Hd hmk
         obtain ⟨X,hX⟩:∃ X:ByteArray,(⟨(Blk.valueL q.1).toArray⟩:ByteArray)=X:=⟨_,rfl⟩
         rw [show bV [] (i+3) (some q)=.tuple #[.string X,.int .i64 ((i+3+q.2:Nat):Int),.bool true] by rw [← hX];rfl] at HL
         obtain ⟨E,hE⟩:∃ E,i+3+q.2=E:=⟨_,rfl⟩
         rw [hE] at HL
         have HX:=Hd hX
         have HE:=Hd hE
         clear hv hl hdr hd hq h34 hX hE
         go_enter Tryz.func102,Tryz.ntmps102
         go_wp2_with fail
         refine (HD _).out.mono ?_
         rintro e w1 ⟨rfl,rfl⟩
         go_wp2_with fail
         refine (HI _).out.mono ?_
         rintro e w1 ⟨r,rfl,hr,rfl⟩
         have hr0 : ¬ r ≥ 0:=by
           rw [hmk] at hr
           simpa using hr
         clear hr HI
         go_wp2_with fail
         refine (HQ _).out.mono ?_
         rintro e w1 ⟨rfl,rfl⟩
         go_wp2_with fail
         refine (HL _).out.mono ?_
         rintro e w2 ⟨rfl,hb2⟩
         have B0:=Hd ((hb2.block w.heap.size (by simp;omega)).trans H0.out)
         have BB:=Hd (HB0.out.trans (hb2.mono (by simp;omega)))
         obtain ⟨z0,z1,zf0,zf1⟩:=Jv B0.out
         clear hb2 HL
         go_wp2_with fail
         refine J3 rfl rfl rfl (Ej B0.out) ⟨?_,(BB.out.setCell (Nat.le_refl _) _).setCell (Nat.le_refl _) _⟩
         rw [HV.out]
         exact J7 HX.out (by have:=HE.out;omega)
   · have hv:=Zqm (t:=s.data.toList.drop (i+1)) (by rw [← hdr];exact hd) hmk
     rw [← hdr] at hv
     have HV:=Hd hv
     obtain ⟨E,hE⟩:∃ E,i+1=E:=⟨_,rfl⟩
     have gE:(i:Int)+1=(E:Int):=by omega
     have g2:(i:Int)≤(E:Int):=by omega
     have g3:(E:Int)≤(s.size:Int):=by omega
     have HX:Hid ((⟨[s[i]].toArray⟩:ByteArray)=s.extract i E):=Hd (Gz (by rw [← hE];exact Qg s i hi))
     have HE:=Hd hE
     clear hv hdr hd hE
     go_enter Tryz.func102,Tryz.ntmps102
     go_wp2_with fail
     refine (HD _).out.mono ?_
     rintro e w1 ⟨rfl,rfl⟩
     go_wp2_with fail
     refine (HI _).out.mono ?_
     rintro e w1 ⟨r,rfl,hr,rfl⟩
     have hr0:r ≥ 0:=by
       rw [hmk] at hr
       simpa using hr
     clear hr HI
     go_wp2_with fail
     refine J3 rfl rfl rfl (Yg _ _ _).1 ⟨?_,(Yg _ _ _).2.2⟩
     rw [HV.out]
     exact J7 HX.out (by have:=HE.out;omega)
 · rw [show pre (⟨#[46,46,46]⟩:ByteArray).data.toList (s.data.toList.drop i)=true from hd] at HD
   have HV:=Hd (Zz6 hd)
   clear hdr hd
   go_enter Tryz.func102,Tryz.ntmps102
   go_wp2_with fail
   refine (HD _).out.mono ?_
   rintro e w1 ⟨rfl,rfl⟩
   go_wp2_with fail
   refine J3 rfl rfl rfl (Yg _ _ _).1 ⟨?_,(Yg _ _ _).2.2⟩
   rw [HV.out]
   exact J7 rfl (by omega)
theorem Zqz {l:List UInt8} (h:Yz l=true):Zi l=true:=by
 rw [Jd]
 unfold Yz F0 at h
 cases hc:Jc l with
 | none=>rw [hc] at h;cases h
 | some _=>rfl
theorem Ni:∀ (n:Nat) (l:List UInt8),l.length≤n→Uc (l.drop (Cf l))=Uc l:=by
 intro n
 induction n with
 | zero =>
   intro l h
   have:l=[]:=List.eq_nil_of_length_eq_zero (by omega)
   subst this
   rfl
 | succ n ih =>
   intro l h
   by_cases h0:V5 l=0
   · rw [Wc h0,List.drop_zero]
   · rw [Ff h0,← List.drop_drop,ih _ (by rw [List.length_drop];omega),← Rz h0]
theorem Yd3 {i:Nat} {e:Ending} (h:Zkl i none e):∃ (a:Int) (b:ByteArray) (k:Int),e=.returned (.tuple #[.agg #[.int .i64 a,.string b],.int .i64 k,.bool false]):=h
theorem Yd2 {i:Nat} {p:(Int × List UInt8) × Nat} {e:Ending} (h:Zkl i (some p) e):e=.returned (.tuple #[.agg #[.int .i64 p.1.1,.string ⟨p.1.2.toArray⟩],.int .i64 ((i+p.2:Nat):Int),.bool true]):=h
def Yf3 (w w':World) (p:List (Int × List UInt8) × Int) (e:Ending):Prop:=(∃ A cap,e=.returned (.tuple #[.slice A p.1.length cap,.int .i64 p.2])∧Ee w' A cap p.1)∧Below w.heap.size w w'
theorem B8 (w:World):Ee w none 0 []:=⟨fun j v h=>by simp [X7] at h,Nat.le_refl _⟩
theorem Zj1 (s:ByteArray) (w:World) (hs:s.size≤9000):Calls Tryz.prog 43 #[.string s] w fun e w'=>Yf3 w w' (Zq s.data.toList) e:=by
 by_cases hbig:8192 < s.size
 · have hr:Hid (Zq s.data.toList=([],3)):=Hd (by unfold Zq;rw [if_pos (by rw [Z6];exact hbig)])
   have hb':(8192:Int) < (s.size:Int):=by omega
   go_enter Tryz.func43,Tryz.ntmps43
   go_wp2
   go_ret2
   exact ⟨⟨none,0,by rw [hr.out];rfl,by rw [hr.out];exact B8 _⟩,Below.refl _ _⟩
 · have hb' : ¬ (8192:Int) < (s.size:Int):=by omega
   have HSrc:=Hd (Zzh s w hs)
   cases hsrc:Yz s.data.toList
   · have hr:Hid (Zq s.data.toList=([],2)):=Hd (by unfold Zq;rw [if_neg (by rw [Z6];exact hbig),if_pos hsrc])
     rw [hsrc] at HSrc
     clear hsrc
     go_enter Tryz.func43,Tryz.ntmps43
     go_wp2_with fail
     refine HSrc.out.mono ?_
     rintro e w1 ⟨rfl,hb1⟩
     have HB1:=Hd hb1
     clear hb1
     go_wp2_with fail
     go_ret2
     exact ⟨⟨none,0,by rw [hr.out];rfl,by rw [hr.out];exact B8 _⟩,HB1.out⟩
   · have hr:Hid (Zq s.data.toList=match Uc s.data.toList with|none=>([],2)|some ts=>(ts,0)):=Hd (by unfold Zq;rw [if_neg (by rw [Z6];exact hbig),if_neg (by rw [hsrc];decide)];cases Uc s.data.toList<;>rfl)
     have HGd:=Hd (Zqz hsrc)
     obtain ⟨i0,hii,hz0,hz1,hz2⟩:=info_parts Zjw
     obtain ⟨RL,hRL⟩:∃ RL,Uc s.data.toList=RL:=⟨_,rfl⟩
     rw [hRL] at hr
     have HS0:=fun w=>Hd (Tt s 0 w hs (Nat.zero_le _))
     obtain ⟨a0,ha0⟩:∃ a,0+Cf (s.data.toList.drop 0)=a:=⟨_,rfl⟩
     have ha0':a0=Cf s.data.toList:=by rw [← ha0,Nat.zero_add,List.drop_zero]
     have ha0s:a0≤s.size:=by rw [ha0',← Z6];exact Yal _ _ (Nat.le_refl _)
     have hstart:Hid ((Uc (s.data.toList.drop a0)).map ([] ++ ·)=RL):=Hd (by
      rw [ha0',Ni _ _ (Nat.le_refl _),hRL];cases RL<;>rfl)
     have hgap0:Hid (V5 (s.data.toList.drop a0)=0):=Hd (by rw [ha0'];exact Zjz _ _ (Nat.le_refl _))
     rw [ha0] at HS0
     have c0:((0:Nat):Int)=0:=rfl
     rw [c0] at HS0
     rw [hsrc] at HSrc
     clear hsrc hRL ha0 ha0' c0
     go_enter Tryz.func43,Tryz.ntmps43
     go_wp2_with fail
     refine HSrc.out.mono ?_
     rintro e w1 ⟨rfl,hb1⟩
     have HB1:=Hd hb1
     have hbs1:=hb1.size
     clear hb1
     go_wp2_with fail
     refine (HS0 _).out.mono ?_
     rintro e w2 ⟨rfl,rfl⟩
     clear HS0 HSrc
     go_wp2_with fail
     go_loopg [4,5,6,7,8] (s.size - a0) (fun g ov iv pv kv bv wx=>∃ (i:Nat) (done:List (Int × List UInt8)),i+g=s.size∧iv=.int .i64 i∧done.length≤i∧Aside (V5 (s.data.toList.drop i)=0)∧Aside ((Uc (s.data.toList.drop i)).map (done ++ ·)=RL)∧wx.ownsRow w1.heap.size 70 2 ov done.length (X7 done)∧Below w1.heap.size w1 wx)
     case atStart=>exact ⟨a0,[],by omega,rfl,Nat.zero_le _,Aside.intro hgap0.out,Aside.intro hstart.out,World.ownsRow_nil _ _ _ _,Below.refl _ _⟩
     case round =>
      obtain ⟨i,done,hig,rfl,hdl,HGp,H,hown,hb⟩:=hrel
      obtain ⟨A,cap,rfl⟩:=Vw hown
      have hbs:=hb.size
      have HB:=Hd hb
      have hi0:(0:Int)≤(i:Int):=by omega
      clear hb
      by_cases hlt:i < s.size
      · have hlt':(i:Int) < (s.size:Int):=by omega
        have hne:s.data.toList.drop i ≠ []:=by rw [Z9 s i hlt];simp
        have HN:=Hd (Yc8 s i wr hs hlt HGd.out)
        cases ht:Lb (s.data.toList.drop i) with
        | none =>
          rw [ht] at HN
          have hr2:Hid (Zq s.data.toList=([],2)):=Hd (by
           have h:=H.out
           rw [Nv HGp.out hne ht] at h
           rw [hr.out,← h];rfl)
          clear H HGp hne ht hown
          go_wp2_with fail
          refine HN.out.mono ?_
          rintro e w3 ⟨he,hb3⟩
          obtain ⟨a,b,k,rfl⟩:=Yd3 he
          have HB3:=Hd ((HB1.out.trans ((HB.out.trans (hb3.mono hbs)).mono hbs1)))
          have h3s:=HB3.out.size
          clear hb3 he HN
          go_wp2_with fail
          go_ret2
          exact ⟨⟨none,0,by rw [hr2.out];rfl,by rw [hr2.out];exact B8 _⟩,HB3.out.alloc h3s _⟩
        | some p =>
          rw [ht] at HN
          obtain ⟨⟨K,TL⟩,n⟩:=p
          have hp:=Zqy ht
          simp only at hp
          rw [List.length_drop,Z6] at hp
          obtain ⟨T,hT⟩:∃ T:ByteArray,(⟨TL.toArray⟩:ByteArray)=T:=⟨_,rfl⟩
          have hTd:TL=T.data.toList:=by rw [← hT]
          obtain ⟨E,hE⟩:∃ E,i+n=E:=⟨_,rfl⟩
          have hEs:E≤s.size:=by omega
          have hiE:i+1≤E:=by omega
          have HSk:=fun w=>Hd (Tt s E w hs hEs)
          obtain ⟨j,hj⟩:∃ j,E+Cf (s.data.toList.drop E)=j:=⟨_,rfl⟩
          have hjs:j≤s.size:=by
           have:=Yal _ (s.data.toList.drop E) (Nat.le_refl _)
           rw [List.length_drop,Z6] at this
           omega
          have hEj:E≤j:=by omega
          have HGj:Hid (V5 (s.data.toList.drop j)=0):=Hd (by rw [← hj,← List.drop_drop];exact Zjz _ _ (Nat.le_refl _))
          have HRj:Hid ((Uc (s.data.toList.drop j)).map ((done++[(K,TL)]) ++ ·)=RL):=Hd (by
           have h:=H.out
           rw [Bh HGp.out hne ht] at h
           simp only at h
           rw [List.drop_drop,hE,← Ni _ (s.data.toList.drop E) (Nat.le_refl _),List.drop_drop,hj,Option.map_map] at h
           rw [← h]
           congr 1
           funext r
           simp)
          rw [hj] at HSk
          have HTd:=Hd hTd
          have HEi:=Hd hE
          have hn1:1≤n:=hp.1
          clear H HGp hne ht hj hp hTd
          go_wp2_with fail
          refine HN.out.mono ?_
          rintro e w3 ⟨he,hb3⟩
          have he':=Yd2 he
          simp only at he'
          rw [hT,hE] at he'
          subst he'
          have hown3:=(Xi hown hb3).alloc (.cells #[.int .i64 K,.string T] 70)
          have HB3:=Hd hb3
          have hb3s:=hb3.size
          have hTE:=Hd hT
          clear hb3 hown he HN hT hE
          go_wp2_with (at_builtin;refine wpList_append_own _ rfl _ _ 45 rfl w1.heap.size 70 i0 (.agg #[.int .i64 0,.string ⟨#[]⟩]) 2 24 Tryz.underlying45 hii hz0 hz1 hz2 rfl (by decide) _ _ _ rfl (hown3.alloc _) _ 1 1 [.int .i64 K,.string T] rfl rfl (Uy _ _ _ _ (by simp)) (by intro x hx;simp at hx;rcases hx with rfl|rfl<;>rfl) (by unfold maxLen;omega) (by omega) (by simp;omega) ?_;intro v' w4 hown' hgrow _;obtain ⟨A',cap',rfl⟩:=Vw hown';have HG4:=Hd hgrow;have HO4:=Hd hown';have HW:=Hd hown3;clear hgrow hown' hown3)
          refine (HSk _).out.mono ?_
          rintro e w5 ⟨rfl,rfl⟩
          have hb5:Below w1.heap.size w1 ((w3.alloc (.cells #[.int .i64 K,.string T] 70)).alloc (.cells #[.int .i64 K,.string T] 70)):=((HB.out.trans (HB3.out.mono hbs)).alloc (by omega) _).alloc (by simp;omega) _
          go_wp2_with fail
          go_roundg (s.size - j)
          case measure=>omega
          case rel=>exact ⟨j,done++[(K,TL)],by omega,rfl,by have:=HEi.out;simp;omega,Aside.intro HGj.out,Aside.intro HRj.out,by rw [Uz,List.length_append,hTE.out];exact HO4.out,hb5.grown HG4.out (by have:=hb5.size;omega) (fun q hq=>(HW.out.lt q hq).1)⟩
      · have hge : ¬ (i:Int) < (s.size:Int):=by omega
        have hr2:Hid (Zq s.data.toList=(done,0)):=Hd (by
          have h:=H.out
          rw [Yp s i (by omega),Dz] at h
          rw [hr.out,← h];simp)
        have HT:=Hd (Ydu hown)
        clear H HGp hown
        go_wp2_with fail
        go_ret2
        exact ⟨⟨A,cap,by rw [hr2.out];rfl,by rw [hr2.out];exact HT.out⟩,HB1.out.trans (HB.out.mono hbs1)⟩
theorem Zyr {k:Int} {s:ByteArray} {t:Tok} (r:List Tok) (h:t.1 ≠ k):atB k s (t :: r)=false:=by
 unfold atB
 simp [h]
theorem Ybv (fx:Bool) (d:Nat) {t:Tok} (r:List Tok) (h:t.1 ≠ 1):Uq fx d (t :: r)=Zqa (t :: r):=by
 rw [Ww]
 unfold ifR
 rw [if_neg (by rw [Zyr r h];simp),if_neg (by rw [Zyr r h];simp)]
 cases fx
 · rw [if_neg (by simp)]
   unfold Ymp ifR
   rw [if_neg (by rw [Zyr r h];simp)]
 · rw [if_pos rfl]
theorem Yn4 {t:Tok} {k n:Int} {s:ByteArray} (r:List Tok) (h:Zo t=some (k,n,s)):Zqa (t :: r)=.ok (.mk k n s .nil .nil,r):=by
 show (match Zo t with|none=>(.error 2:Except Int (VT × List Tok))|some (k,n,s)=>.ok (.mk k n s .nil .nil,r))=_
 rw [h]
theorem Zyp (fx:Bool) (d:Nat) {t:Tok} {k n:Int} {s:ByteArray} (r:List Tok) (h1:t.1 ≠ 1) (h:Zo t=some (k,n,s)):Uq fx d (t :: r)=.ok (.mk k n s .nil .nil,r):=by
 rw [Ybv fx d r h1,Yn4 r h]
def dW (b:UInt8):Nat:=(b.toNat+208) % 256
theorem Yb1 (b:UInt8):IntKind.u8.wrap ((b.toNat:Int) - 48)=(dW b:Int):=by
 rw [IntKind.wrap_u8];unfold dW;omega
theorem Ymr {b:UInt8} (h:Iu b=true):dW b=b.toNat - 48:=by
 have:=Po h
 unfold dW;omega
def Ri (a:Nat) (l:List UInt8):Nat:=l.foldl (fun a b=>a*10+dW b) a
theorem A7:∀ (l:List UInt8) (a:Nat),a≤Ri a l
 | [],a=>Nat.le_refl _
 | b :: l,a=>by
   show a≤Ri (a*10+dW b) l
   have:=A7 l (a*10+dW b)
   omega
theorem Ec:∀ (l:List UInt8) (a:Nat),l.all Iu=true→Ri a l=De a l
 | [],_,_=>rfl
 | b :: l,a,h=>by
   rw [List.all_cons,Bool.and_eq_true] at h
   show Ri (a*10+dW b) l=De (a*10+(b.toNat - 48)) l
   rw [Ymr h.1,Ec l _ h.2]
def Fk:List UInt8→Bool
 | []=>true
 | b :: t=>if b=45 then decide (Ri 0 t≤9223372036854775808) else decide (Ri 0 (b :: t)≤9223372036854775807)
theorem P9 {l:List UInt8} (h:Up l=3):Fk l=Ja (Mm l):=by
 obtain ⟨m,hm,hd,hne⟩:=Ci h
 cases l with
 | nil=>rfl
 | cons b t =>
   by_cases hb:b=45
   · subst hb
     have:m=1:=by rw [← hm];rfl
     subst this
     have hd':t.all Iu=true:=hd
     rw [Bp]
     rw [Fk,if_pos rfl,Ec t 0 hd']
     unfold Ja
     rw [show De 0 t=Ycl t from rfl]
     congr 1
     exact propext ⟨fun h=>by omega,fun h=>by omega⟩
   · have:m=0:=by rw [← hm];unfold Zm;simp [hb]
     subst this
     have hd':(b :: t).all Iu=true:=hd
     rw [Wz hd']
     rw [Fk,if_neg hb,Ec _ 0 hd']
     unfold Ja
     rw [show De 0 (b :: t)=Ycl (b :: t) from rfl]
     congr 1
     exact propext ⟨fun h=>by omega,fun h=>by omega⟩
theorem Zkq (s:ByteArray) (m:Nat) (h:m < s.size) (a:Nat):Ri a (s.data.toList.drop m)=Ri (a*10+dW s[m]) (s.data.toList.drop (m+1)):=by
 rw [Z9 s m h];rfl
theorem Zjo (D:Int) (h0 : -9223372036854775808≤D) (h1:D≤0):10*Int.tdiv D 10 - 10 < D∧D≤10*Int.tdiv D 10∧D.tdiv 10≤0∧10*Int.tdiv D 10 < D+10:=by
 have h:D.tdiv 10 = -((-D) / 10):=by
  rw [show D = -(-D) by omega,Int.neg_tdiv,Int.tdiv_eq_ediv_of_nonneg (by omega)];simp
 rw [h];omega
theorem Zvp (s:ByteArray) (hp:0 < s.size):Fk s.data.toList=if s[0]=45 then decide (Ri 0 (s.data.toList.drop 1)≤9223372036854775808) else decide (Ri 0 (s.data.toList.drop 0)≤9223372036854775807):=by
 have h:=Z9 s 0 hp
 rw [List.drop_zero] at h
 rw [h,Fk]
 rfl
abbrev StP:=Except Int (List Tok)
def Za {α:Type} (p:Rdr α):StP→Except Int (α × List Tok)
 | .ok ts=>p ts
 | .error y=>.error y
def Yk {α:Type} : Except Int (α × List Tok)→StP
 | .ok a=>.ok a.2
 | .error y=>.error y
def Eh {α β:Type} (f:α→β):Except Int (α × List Tok)→Except Int (β × List Tok)
 | .ok a=>.ok (f a.1,a.2)
 | .error y=>.error y
theorem Yc {α β:Type} (f:α→β) (R:Except Int (α × List Tok)):Yk (Eh f R)=Yk R:=by cases R<;>rfl
theorem Jp {α β:Type} {f:α→β} {R:Except Int (α × List Tok)} {b:β} {ts:List Tok} (h:Eh f R=.ok (b,ts)):∃ a,R=.ok (a,ts)∧b=f a:=by
 cases R with
 | error y=>cases h
 | ok a =>
   have:=Except.ok.inj h
   obtain ⟨h1,h2⟩:=Prod.mk.inj this
   exact ⟨a.1,by rw [← h2],h1.symm⟩
def isS (k:Int) (s:ByteArray):StP→Bool
 | .ok ts=>atB k s ts
 | .error _=>false
def F2:StP→Bool
 | .ok ts=>Cn ts
 | .error _=>false
def B7 (x:Int):StP→StP
 | .ok _=>.error x
 | .error y=>.error y
def tkS (s:ByteArray):StP→StP
 | .ok ts=>if atB 1 s ts=true then .ok ts.tail else .error 2
 | .error y=>.error y
def nmS:StP→StP
 | .ok ts=>(match Zb ts with|some a=>.ok a.2|none=>.error 2)
 | .error y=>.error y
def nmV:StP→ByteArray
 | .ok ts=>(match Zb ts with|some a=>a.1|none=>eB)
 | .error _=>eB
def Li (d:Nat) (s:ByteArray) (S:StP):StP:=if isS 1 s S=true∧d=16 then .error 4 else tkS s S
def V6:StP→Tok
 | .ok (t :: _)=>t
 | _=>(0,⟨#[]⟩)
theorem Zj7 (k:Int) (s:ByteArray) (S:StP) (hk:k ≠ 0):isS k s S=((V6 S).1 == k && ((V6 S).2.toList == s.toList)):=by
 rcases S with y|ts
 · have:((0:Int) == k)=false:=by simpa using fun h=>hk h.symm
   show false=((0:Int) == k && _)
   rw [this];rfl
 · rcases ts with _|⟨t,ts⟩
   · have:((0:Int) == k)=false:=by simpa using fun h=>hk h.symm
     show false=((0:Int) == k && _)
     rw [this];rfl
   · rfl
theorem Lo (S:StP):F2 S=((V6 S).1 == 2):=by
 rcases S with y|ts
 · rfl
 · rcases ts with _|⟨t,ts⟩<;>rfl
theorem Wl {S:StP} (h:F2 S=true):∃ t ts,S=.ok (t :: ts)∧nmV S=t.2∧nmS S=.ok ts:=by
 rcases S with y|ts
 · cases h
 · rcases ts with _|⟨t,ts⟩
   · cases h
   · have ht:t.1=2:=by simpa [F2,Cn] using h
     refine ⟨t,ts,rfl,?_,?_⟩
     · simp only [nmV,J8,if_pos ht]
     · simp only [nmS,J8,if_pos ht]
theorem Yd9 {S:StP} (h:F2 S=false):nmV S=eB∧nmS S=B7 2 S:=by
 rcases S with y|ts
 · exact ⟨rfl,rfl⟩
 · rcases ts with _|⟨t,ts⟩
   · exact ⟨rfl,rfl⟩
   · have ht : ¬ t.1=2:=by simpa [F2,Cn] using h
     refine ⟨?_,?_⟩
     · simp only [nmV,J8,if_neg ht]
     · simp only [nmS,J8,if_neg ht,B7]
theorem Xh {s:ByteArray} {S:StP} (h:isS 1 s S=true):∃ t ts,S=.ok (t :: ts)∧tkS s S=.ok ts:=by
 rcases S with y|ts
 · cases h
 · rcases ts with _|⟨t,ts⟩
   · cases h
   · have h1:atB 1 s (t :: ts)=true:=h
     exact ⟨t,ts,rfl,by show (if atB 1 s (t :: ts)=true then _ else _)=_;rw [if_pos h1];rfl⟩
theorem Rb {s:ByteArray} {S:StP} (h:isS 1 s S=false):tkS s S=B7 2 S:=by
 rcases S with y|ts
 · rfl
 · have h' : ¬ atB 1 s ts=true:=by
    have:atB 1 s ts=false:=h
    rw [this];simp
   show (if atB 1 s ts=true then _ else _)=_
   rw [if_neg h'];rfl
theorem Yku (fx:Bool) (d:Nat) (S:StP):Za (Cy fx d) S=Eh (fun v=>(nmV S,v)) (Za (Uq fx d) (tkS Jq (nmS S))):=by
 rcases S with y|ts
 · rfl
 · show Cy fx d ts=_
   rw [Yda]
   unfold nmR
   simp only [nmS,nmV]
   cases hn:Zb ts with
   | none=>rfl
   | some a =>
     obtain ⟨nm,r⟩:=a
     simp only [ifR,tkS]
     cases hc:atB 1 Jq r with
     | false=>rfl
     | true =>
       simp only [if_true,Zk,Za,Il]
       cases Uq fx d r.tail<;>rfl
def Pb {α ρ:Type} (one:Rdr α) (add:ρ→α→ρ) (e:ByteArray) (acc:ρ) (emp:Bool) (S:StP):Except Int (ρ × List Tok):=
 if emp=true then Za (Ydm one add e acc) S else Za (ifR 1 e (Il acc) (Ydm one add e acc)) S
theorem I8 {α ρ:Type} (one:Rdr α) (add:ρ→α→ρ) (e:ByteArray) (acc:ρ) (emp:Bool) (y:Int):Pb one add e acc emp (.error y)=.error y:=by unfold Pb;split<;>rfl
theorem Zqi {α ρ:Type} {one:Rdr α} {add:ρ→α→ρ} {e:ByteArray} {acc:ρ} {S:StP} (h:isS 1 e S=true):Pb one add e acc false S=Eh (fun _=>acc) (Za (fun ts=>.ok ((),ts)) (tkS e S)):=by
 obtain ⟨t,ts,rfl,h2⟩:=Xh h
 have h1:atB 1 e (t :: ts)=true:=h
 unfold Pb
 rw [if_neg (by simp),h2]
 simp only [Za,ifR,h1,if_true,Il,Eh,List.tail_cons]
theorem Gb {α ρ:Type} {one:Rdr α} {add:ρ→α→ρ} {e:ByteArray} (H:Str one) {acc:ρ} {emp:Bool} {S:StP} (h:emp=true∨isS 1 e S=false) :
   Pb one add e acc emp S=(match Za one S with | .ok a=>Pb one add e (add acc a.1) false (.ok a.2) | .error y=>.error y):=by
 rcases S with y|ts
 · rw [I8];rfl
 · have hs:Pb one add e acc emp (.ok ts)=Ydm one add e acc ts:=by
    unfold Pb
    rcases h with h|h
    · rw [if_pos h];rfl
    · have h' : ¬ atB 1 e ts=true:=by
        have:atB 1 e ts=false:=h
        rw [this];simp
      by_cases he:emp=true
      · rw [if_pos he];rfl
      · rw [if_neg he]
        simp only [Za,ifR]
        rw [if_neg h']
   rw [hs,Yab H]
   simp only [Zk,Za]
   cases one ts with
   | error y=>rfl
   | ok a=>rfl
def itS (fx:Bool) (d:Nat) (l:VL) (S:StP):Except Int (VL × List Tok):=Za (Gr fx d l) S
theorem Yks {fx:Bool} {d:Nat} {l:VL} {S:StP} (h:isS 1 cB S=false):itS fx d l S=(match Za (Uq fx d) S with | .ok a=>itS fx d (l.snoc a.1) (.ok a.2) | .error y=>.error y):=by
 rcases S with y|ts
 · rfl
 · have h' : ¬ atB 1 cB ts=true:=by
    have:atB 1 cB ts=false:=h
    rw [this];simp
   show Gr fx d l ts=_
   rw [Dv]
   simp only [ifR]
   rw [if_neg h']
   simp only [Zk,Za]
   cases Uq fx d ts<;>rfl
theorem Yn7 {fx:Bool} {d:Nat} {l:VL} {S:StP} (h:isS 1 cB S=true):itS fx d l S=Eh (fun _=>l) (Za (fun ts=>.ok ((),ts)) (tkS cB S)):=by
 obtain ⟨t,ts,rfl,h2⟩:=Xh h
 have h1:atB 1 cB (t :: ts)=true:=h
 rw [h2]
 show Gr fx d l (t :: ts)=_
 rw [Dv]
 simp only [ifR,h1,if_true,Il,Eh,Za,List.tail_cons]
def msS (fx:Bool) (d:Nat) (l:VM) (S:StP):Except Int (VM × List Tok):=Za (Ml fx d l) S
theorem Ykx {fx:Bool} {d:Nat} {l:VM} {S:StP} (h:isS 1 cmB S=false):msS fx d l S=(match Za (Cy fx d) S with | .ok a=>msS fx d (l.snoc a.1.1 a.1.2) (.ok a.2) | .error y=>.error y):=by
 rcases S with y|ts
 · rfl
 · have h' : ¬ atB 1 cmB ts=true:=by
    have:atB 1 cmB ts=false:=h
    rw [this];simp
   show Ml fx d l ts=_
   rw [Qb]
   simp only [ifR]
   rw [if_neg h']
   simp only [Zk,Za]
   cases Cy fx d ts<;>rfl
theorem Ymb {fx:Bool} {d:Nat} {l:VM} {S:StP} (h:isS 1 cmB S=true):msS fx d l S=Eh (fun _=>l) (Za (fun ts=>.ok ((),ts)) (tkS cmB S)):=by
 obtain ⟨t,ts,rfl,h2⟩:=Xh h
 have h1:atB 1 cmB (t :: ts)=true:=h
 rw [h2]
 show Ml fx d l (t :: ts)=_
 rw [Qb]
 simp only [ifR,h1,if_true,Il,Eh,Za,List.tail_cons]
theorem Yk6 {fx:Bool} {d:Nat} {S:StP} (h:isS 1 opB S=false):Za (Ym fx d) S=Eh (fun _=>.nil) (Za (fun ts=>.ok ((),ts)) S):=by
 rcases S with y|ts
 · rfl
 · have h' : ¬ atB 1 opB ts=true:=by
    have:atB 1 opB ts=false:=h
    rw [this];simp
   show Ym fx d ts=_
   rw [Pj]
   simp only [ifR]
   rw [if_neg h']
   rfl
theorem Ye7 {fx:Bool} {d:Nat} {S:StP} (h:isS 1 opB S=true):Za (Ym fx d) S=Pb (Cy fx d) Zq8 cpB .nil true (tkS opB S):=by
 obtain ⟨t,ts,rfl,h2⟩:=Xh h
 have h1:atB 1 opB (t :: ts)=true:=h
 rw [h2]
 show Ym fx d (t :: ts)=_
 rw [Pj]
 simp only [ifR,h1,if_true,List.tail_cons]
 rfl
def dsS (fx:Bool) (d:Nat) (l:List Lk) (S:StP):Except Int (List Lk × List Tok):=Za (Py fx d l) S
theorem Yn0 {fx:Bool} {d:Nat} {l:List Lk} {S:StP} (h:isS 1 Zqb S=false):dsS fx d l S=Eh (fun _=>l) (Za (fun ts=>.ok ((),ts)) S):=by
 rcases S with y|ts
 · rfl
 · have h' : ¬ atB 1 Zqb ts=true:=by
    have:atB 1 Zqb ts=false:=h
    rw [this];simp
   show Py fx d l ts=_
   rw [Pq]
   simp only [ifR]
   rw [if_neg h']
   rfl
theorem Yj7 {fx:Bool} {d:Nat} {l:List Lk} {S:StP} (h:isS 1 Zqb S=true):dsS fx d l S=(match Za (Ym fx d) (nmS (tkS Zqb S)) with | .ok a=>dsS fx d (l++[(nmV (tkS Zqb S),a.1)]) (.ok a.2) | .error y=>.error y):=by
 obtain ⟨t,ts,rfl,h2⟩:=Xh h
 have h1:atB 1 Zqb (t :: ts)=true:=h
 rw [h2]
 show Py fx d l (t :: ts)=_
 rw [Pq]
 simp only [ifR,h1,if_true,List.tail_cons,nmR,nmS,nmV]
 cases hn:Zb ts with
 | none=>rfl
 | some a =>
   simp only [Zk,Za]
   cases Ym fx d a.2<;>rfl
theorem Yds (d:Nat) (S:StP):Za (X8 d) S=Pb (Wr (d+1)) Zq7 cmB .nil true (Li d omB S):=by
 rcases S with y|ts
 · show (.error y:Except Int _)=_
   unfold Li
   rw [if_neg (by simp [isS])]
   rw [show tkS omB (.error y)=.error y from rfl,I8]
 · show X8 d ts=_
   rw [Zjh]
   unfold Li
   simp only [ifR]
   by_cases hb:atB 1 omB ts=true
   · have hS:isS 1 omB (.ok ts)=true:=hb
     by_cases h16:d=16
     · rw [if_pos hb,if_pos h16,if_pos ⟨hS,h16⟩,I8];rfl
     · rw [if_pos hb,if_neg h16,if_neg (fun h=>h16 h.2)]
       obtain ⟨t,us,e,h2⟩:=Xh hS
       have e:=Except.ok.inj e
       subst e
       rw [h2]
       rfl
   · have hS:isS 1 omB (.ok ts)=false:=by
       show atB 1 omB ts=false
       simpa using hb
     rw [if_neg hb,if_neg (fun h=>by rw [hS] at h;cases h.1),Rb hS]
     rw [show B7 2 (.ok ts)=.error 2 from rfl,I8];rfl
def Uf {α:Type} (z:α):Except Int (α × List Tok)→α
 | .ok a=>a.1
 | .error _=>z
theorem J0 {α:Type} {R:Except Int (α × List Tok)} {ts:List Tok} (h:Yk R=.ok ts):∃ a,R=.ok (a,ts)∧∀ z,Uf z R=a:=by
 cases R with
 | error y=>cases h
 | ok a=>exact ⟨a.1,by rw [← Except.ok.inj h],fun _=>rfl⟩
theorem Xs {α:Type} {p:Rdr α} {S:StP} {a:α} {ts:List Tok} (h:Za p S=.ok (a,ts)):∃ us,S=.ok us∧p us=.ok (a,ts):=by
 rcases S with y|us
 · cases h
 · exact ⟨us,rfl,h⟩
theorem Yc5 (S':Ul) (d:Nat) (o:ByteArray) (S:StP):Za (Yl S' d o) S=Eh (fun s=>.mk 2 eB eB .nil (Uf [] (Za (Zp false d) S)) o s) (Za S' (Yk (Za (Zp false d) S))):=by
 rcases S with y|ts
 · rfl
 · show Yl S' d o ts=_
   rw [Na]
   simp only [Zk,Za]
   cases Zp false d ts with
   | error y=>rfl
   | ok a =>
     simp only [Yk,Uf,Il]
     cases S' a.2<;>rfl
theorem Ye0 (S':Ul) (d:Nat) (al nm:ByteArray) (S:StP) (h:isS 1 omB (Yk (Za (Zp false d) (Yk (Za (Ym false d) S))))=true):Za (Ua S' d al nm) S =
     Eh (fun s=>.mk 0 al nm (Uf .nil (Za (Ym false d) S)) (Uf [] (Za (Zp false d) (Yk (Za (Ym false d) S)))) eB s) (Za S' (Yk (Za (Zp false d) (Yk (Za (Ym false d) S))))):=by
 rcases S with y|ts
 · cases h
 · show Ua S' d al nm ts=_
   rw [Q3]
   simp only [Zk,Za] at h ⊢
   cases h1:Ym false d ts with
   | error y=>rw [h1] at h;cases h
   | ok a =>
     rw [h1] at h
     simp only [Yk,Uf] at h ⊢
     cases h2:Zp false d a.2 with
     | error y=>rw [h2] at h;cases h
     | ok b =>
       rw [h2] at h
       have h3:atB 1 omB b.2=true:=h
       simp only [Tb,h3,if_true,Zk,Il]
       cases S' b.2<;>rfl
theorem Yir (S':Ul) (d:Nat) (al nm:ByteArray) (S:StP) (h:isS 1 omB (Yk (Za (Zp false d) (Yk (Za (Ym false d) S))))=false):Za (Ua S' d al nm) S =
     Eh (fun ds=>.mk 0 al nm (Uf .nil (Za (Ym false d) S)) ds eB .nil) (Za (Zp false d) (Yk (Za (Ym false d) S))):=by
 rcases S with y|ts
 · rfl
 · show Ua S' d al nm ts=_
   rw [Q3]
   simp only [Zk,Za] at h ⊢
   cases h1:Ym false d ts with
   | error y=>rfl
   | ok a =>
     rw [h1] at h
     simp only [Yk,Uf] at h ⊢
     cases h2:Zp false d a.2 with
     | error y=>rfl
     | ok b =>
       rw [h2] at h
       have h3 : ¬ atB 1 omB b.2=true:=by
        have:atB 1 omB b.2=false:=h
        rw [this];simp
       simp only [Tb]
       rw [if_neg h3]
       rfl
theorem Sy {S:StP} {s:ByteArray} (h:isS 2 s S=true):F2 S=true:=by
 rcases S with y|ts
 · cases h
 · rcases ts with _|⟨t,ts⟩
   · cases h
   · have h:(t.1 == 2 && (t.2.toList == s.toList))=true:=h
     rw [Bool.and_eq_true] at h
     exact h.1
theorem Ylz {d:Nat} {S:StP} (h:isS 1 Yn S=true) (h2:isS 2 onB (tkS Yn S)=true):Za (Wr d) S=Za (Yl (X8 d) d (nmV (nmS (tkS Yn S)))) (nmS (nmS (tkS Yn S))):=by
 obtain ⟨t,ts,rfl,e⟩:=Xh h
 have h1:atB 1 Yn (t :: ts)=true:=h
 rw [e] at h2 ⊢
 obtain ⟨u,us,e2,_,e3⟩:=Wl (Sy h2)
 have e2:=Except.ok.inj e2
 subst e2
 rw [e3]
 have h2':atB 2 onB (u :: us)=true:=h2
 show Wr d (t :: u :: us)=_
 rw [Gx,Fm,Gf]
 simp only [ifR,h1,h2',if_true,List.tail_cons,nmR,nmS,nmV]
 cases Zb us<;>rfl
theorem Zvz {d:Nat} {S:StP} (h:isS 1 Yn S=true) (h2:isS 2 onB (tkS Yn S)=false) (h3:F2 (tkS Yn S)=true):Za (Wr d) S=Eh (fun ds=>.mk 1 eB (nmV (tkS Yn S)) .nil ds eB .nil) (Za (Zp false d) (nmS (tkS Yn S))):=by
 obtain ⟨t,ts,rfl,e⟩:=Xh h
 have h1:atB 1 Yn (t :: ts)=true:=h
 rw [e] at h2 h3 ⊢
 obtain ⟨u,us,e2,ev,e3⟩:=Wl h3
 have e2:=Except.ok.inj e2
 subst e2
 rw [e3,ev]
 have h2':atB 2 onB (u :: us)=false:=h2
 have hu:u.1=2:=by simpa [F2,Cn] using h3
 show Wr d (t :: u :: us)=_
 rw [Gx,Fm,Gf]
 simp only [ifR,h1,h2',if_true,List.tail_cons,Bool.false_eq_true,if_false]
 simp only [nmR,J8,if_pos hu,Zk,Za,Il]
 cases Zp false d us<;>rfl
theorem Yf7 {d:Nat} {S:StP} (h:isS 1 Yn S=true) (h2:isS 2 onB (tkS Yn S)=false) (h3:F2 (tkS Yn S)=false):Za (Wr d) S=Za (Yl (X8 d) d eB) (tkS Yn S):=by
 obtain ⟨t,ts,rfl,e⟩:=Xh h
 have h1:atB 1 Yn (t :: ts)=true:=h
 rw [e] at h2 h3 ⊢
 have h2':atB 2 onB ts=false:=h2
 have hn:Zb ts=none:=by
  rcases ts with _|⟨u,us⟩
  · rfl
  · have hu : ¬ u.1=2:=by simpa [F2,Cn] using h3
    rw [J8,if_neg hu]
 show Wr d (t :: ts)=_
 rw [Gx,Fm,Gf]
 simp only [ifR,h1,h2',if_true,List.tail_cons,Bool.false_eq_true,if_false]
 simp only [nmR,hn]
 rfl
theorem Yb9 {d:Nat} {S:StP} (h:isS 1 Yn S=false) (h2:isS 1 Jq (nmS S)=true):Za (Wr d) S=Za (Ua (X8 d) d (nmV S) (nmV (tkS Jq (nmS S)))) (nmS (tkS Jq (nmS S))):=by
 rcases S with y|ts
 · cases h2
 · have h' : ¬ atB 1 Yn ts=true:=by
     have:atB 1 Yn ts=false:=h
     rw [this];simp
   show Wr d ts=_
   rw [Gx,Fm,Bs]
   simp only [ifR]
   rw [if_neg h']
   simp only [nmR,nmS,nmV] at h2 ⊢
   cases hn:Zb ts with
   | none=>rw [hn] at h2;cases h2
   | some a =>
     obtain ⟨n,r⟩:=a
     rw [hn] at h2
     have h2':atB 1 Jq r=true:=h2
     simp only [ifR,nmR,h2',if_true,tkS]
     cases Zb r.tail<;>rfl
theorem Yap {d:Nat} {S:StP} (h:isS 1 Yn S=false) (h2:isS 1 Jq (nmS S)=false):Za (Wr d) S=Za (Ua (X8 d) d eB (nmV S)) (nmS S):=by
 rcases S with y|ts
 · rfl
 · have h' : ¬ atB 1 Yn ts=true:=by
     have:atB 1 Yn ts=false:=h
     rw [this];simp
   show Wr d ts=_
   rw [Gx,Fm,Bs]
   simp only [ifR]
   rw [if_neg h']
   simp only [nmR,nmS,nmV] at h2 ⊢
   cases hn:Zb ts with
   | none=>rfl
   | some a =>
     obtain ⟨n,r⟩:=a
     rw [hn] at h2
     have h2':atB 1 Jq r=false:=h2
     simp only [ifR,h2']
     rfl
theorem Yjx (d:Nat) (S:StP) (h:isS 1 eqB (Yk (Za (Zl 4) (tkS Jq (nmS (tkS X9 S)))))=true):Za (Gs d) S =
     Eh (fun v=>⟨nmV (tkS X9 S),(Uf (eB,0,0) (Za (Zl 4) (tkS Jq (nmS (tkS X9 S))))).1,(Uf (eB,0,0) (Za (Zl 4) (tkS Jq (nmS (tkS X9 S))))).2.1,(Uf (eB,0,0) (Za (Zl 4) (tkS Jq (nmS (tkS X9 S))))).2.2,true,v⟩) (Za (Uq true d) (tkS eqB (Yk (Za (Zl 4) (tkS Jq (nmS (tkS X9 S))))))):=by
 rcases S with y|ts
 · cases h
 · show Gs d ts=_
   rw [Zj3]
   simp only [ifR]
   cases h0:atB 1 X9 ts with
   | false =>
     rw [show tkS X9 (.ok ts)=.error 2 by rw [Rb (show isS 1 X9 (.ok ts)=false from h0)];rfl] at h
     cases h
   | true =>
     have e0:tkS X9 (.ok ts)=.ok ts.tail:=by
       show (if atB 1 X9 ts=true then _ else _)=_
       rw [if_pos h0]
     rw [e0] at h ⊢
     simp only [if_true,nmR,nmS,nmV] at h ⊢
     cases hn:Zb ts.tail with
     | none=>rw [hn] at h;cases h
     | some a =>
       obtain ⟨n,r⟩:=a
       rw [hn] at h
       simp only at h ⊢
       cases h1:atB 1 Jq r with
       | false =>
         rw [show tkS Jq (.ok r)=.error 2 by rw [Rb (show isS 1 Jq (.ok r)=false from h1)];rfl] at h
         cases h
       | true =>
         have e1:tkS Jq (.ok r)=.ok r.tail:=by
           show (if atB 1 Jq r=true then _ else _)=_
           rw [if_pos h1]
         rw [e1] at h ⊢
         simp only [Za] at h ⊢
         cases ht:Zl 4 r.tail with
         | error y=>rw [ht] at h;cases h
         | ok t =>
           rw [ht] at h
           have h2:atB 1 eqB t.2=true:=h
           have e2:tkS eqB (Yk (.ok t))=.ok t.2.tail:=by
            show (if atB 1 eqB t.2=true then _ else _)=_
            rw [if_pos h2]
           rw [e2]
           simp only [ifR,h1,if_true,Zk,ht,Ync,h2,Il,Uf]
           cases Uq true d t.2.tail<;>rfl
theorem Ymo (d:Nat) (S:StP) (h:isS 1 eqB (Yk (Za (Zl 4) (tkS Jq (nmS (tkS X9 S)))))=false):Za (Gs d) S=Eh (fun t=>⟨nmV (tkS X9 S),t.1,t.2.1,t.2.2,false,Mj⟩) (Za (Zl 4) (tkS Jq (nmS (tkS X9 S)))):=by
 rcases S with y|ts
 · rfl
 · show Gs d ts=_
   rw [Zj3]
   simp only [ifR]
   cases h0:atB 1 X9 ts with
   | false =>
     rw [show tkS X9 (.ok ts)=.error 2 by rw [Rb (show isS 1 X9 (.ok ts)=false from h0)];rfl]
     rfl
   | true =>
     have e0:tkS X9 (.ok ts)=.ok ts.tail:=by
       show (if atB 1 X9 ts=true then _ else _)=_
       rw [if_pos h0]
     rw [e0] at h ⊢
     simp only [if_true,nmR,nmS,nmV] at h ⊢
     cases hn:Zb ts.tail with
     | none=>rfl
     | some a =>
       obtain ⟨n,r⟩:=a
       rw [hn] at h
       simp only at h ⊢
       cases h1:atB 1 Jq r with
       | false =>
         rw [show tkS Jq (.ok r)=.error 2 by rw [Rb (show isS 1 Jq (.ok r)=false from h1)];rfl]
         simp only [ifR,h1,Bool.false_eq_true,if_false]
         rfl
       | true =>
         have e1:tkS Jq (.ok r)=.ok r.tail:=by
           show (if atB 1 Jq r=true then _ else _)=_
           rw [if_pos h1]
         rw [e1] at h ⊢
         simp only [Za] at h ⊢
         cases ht:Zl 4 r.tail with
         | error y =>
           simp only [ifR,h1,if_true,Zk,ht]
           rfl
         | ok t =>
           rw [ht] at h
           have h2:atB 1 eqB t.2=false:=h
           simp only [ifR,h1,if_true,Zk,ht,Ync,h2,Bool.false_eq_true,if_false]
           rfl
theorem Yic {d:Nat} {S:StP} (h:isS 1 opB S=false):Za (Jj d) S=Eh (fun _=>[]) (Za (fun ts=>.ok ((),ts)) S):=by
 rcases S with y|ts
 · rfl
 · have h' : ¬ atB 1 opB ts=true:=by
    have:atB 1 opB ts=false:=h
    rw [this];simp
   show Jj d ts=_
   rw [Q5]
   simp only [ifR]
   rw [if_neg h']
   rfl
theorem Ye6 {d:Nat} {S:StP} (h:isS 1 opB S=true):Za (Jj d) S=Pb (Gs d) Zqu cpB [] true (tkS opB S):=by
 obtain ⟨t,ts,rfl,h2⟩:=Xh h
 have h1:atB 1 opB (t :: ts)=true:=h
 rw [h2]
 show Jj d (t :: ts)=_
 rw [Q5]
 simp only [ifR,h1,if_true,List.tail_cons]
 rfl
theorem Ns (kind:Int) (d:Nat) (nm:ByteArray) (S:StP):Za (Jt kind d nm) S=Eh (fun s=>⟨kind,nm,Uf [] (Za (Jj d) S),Uf [] (Za (Zp true d) (Yk (Za (Jj d) S))),s⟩) (Za (X8 d) (Yk (Za (Zp true d) (Yk (Za (Jj d) S))))):=by
 rcases S with y|ts
 · rfl
 · show Jt kind d nm ts=_
   rw [Tl]
   simp only [Zk,Za]
   cases Jj d ts with
   | error y=>rfl
   | ok a =>
     simp only [Yk,Uf]
     cases Zp true d a.2 with
     | error y=>rfl
     | ok b =>
       simp only [Il]
       cases X8 d b.2<;>rfl
theorem Ykv {kind:Int} {d:Nat} {S:StP} (h:F2 S=true):Za (opR kind d) S=Za (Jt kind d (nmV S)) (nmS S):=by
 obtain ⟨t,ts,rfl,e1,e2⟩:=Wl h
 have ht:t.1=2:=by simpa [F2,Cn] using h
 rw [e1,e2]
 show opR kind d (t :: ts)=_
 rw [Zyx]
 simp only [nmR,J8,if_pos ht,Za]
theorem Ykd {kind:Int} {d:Nat} {S:StP} (h:F2 S=false):Za (opR kind d) S=Za (Jt kind d eB) S:=by
 rcases S with y|ts
 · rfl
 · have hn:Zb ts=none:=by
    rcases ts with _|⟨u,us⟩
    · rfl
    · have hu : ¬ u.1=2:=by simpa [F2,Cn] using h
      rw [J8,if_neg hu]
   show opR kind d ts=_
   rw [Zyx]
   simp only [nmR,hn,Za]
def Ue (S:StP):StP:=if isS 2 onB S=true then B7 2 S else S
def Em (S:StP):StP:=if isS 2 onB S=true then S else B7 2 S
theorem Ygc (d : Nat) (S:StP):Za (Ud d) S=Eh (fun s=>⟨nmV (Ue S),nmV (nmS (Em (nmS (Ue S)))),Uf [] (Za (Zp true d) (nmS (nmS (Em (nmS (Ue S)))))),s⟩) (Za (X8 d) (Yk (Za (Zp true d) (nmS (nmS (Em (nmS (Ue S)))))))):=by
 rcases S with y|ts
 · rfl
 · show Ud d ts=_
   rw [Zjs]
   simp only [Tb]
   by_cases h0:atB 2 onB ts=true
   · have e0:Ue (.ok ts)=.error 2:=by
       unfold Ue
       rw [if_pos (show isS 2 onB (.ok ts)=true from h0)];rfl
     rw [if_pos h0,e0];rfl
   · have e0 : Ue (.ok ts)=.ok ts:=by
       unfold Ue
       rw [if_neg (show ¬ isS 2 onB (.ok ts)=true from h0)]
     rw [if_neg h0,e0]
     simp only [nmR,nmS,nmV]
     cases hn:Zb ts with
     | none=>rfl
     | some a =>
       obtain ⟨n,r⟩:=a
       simp only [ifR]
       by_cases h1:atB 2 onB r=true
       · have e1:Em (.ok r)=.ok r:=by
           unfold Em
           rw [if_pos (show isS 2 onB (.ok r)=true from h1)]
         rw [if_pos h1,e1]
         rcases r with _|⟨u,us⟩
         · cases h1
         · have hu:u.1=2:=by
             have h1:(u.1 == 2 && (u.2.toList == onB.toList))=true:=h1
             rw [Bool.and_eq_true] at h1
             simpa using h1.1
           simp only [List.tail_cons,J8,if_pos hu,nmR]
           cases hm:Zb us with
           | none=>rfl
           | some b =>
             simp only [Zk,Za]
             cases Zp true d b.2 with
             | error y=>rfl
             | ok c =>
               simp only [Yk,Uf,Il]
               cases X8 d c.2<;>rfl
       · have e1:Em (.ok r)=.error 2:=by
           unfold Em
           rw [if_neg (show ¬ isS 2 onB (.ok r)=true from h1)];rfl
         rw [if_neg h1,e1];rfl
end Go.Proofs.YtpkmbhnikilihaaGreatDoor
