/- The document's own next: the token that begins at a place. -/
import Derived.Test.YtkmloefbkgcbkaaGreatDoorSr47
set_option maxRecDepth 100000
set_option maxHeartbeats 8000000
namespace Go.Proofs.YtkmloefbkgcbkaaGreatDoor
open Go.RowKit
theorem Yi (w:World) (o o':Obj):((w.alloc o).alloc o').heap[w.heap.size]? = some o∧((w.alloc o).alloc o').heap[w.heap.size+1]? = some o'∧Below w.heap.size w ((w.alloc o).alloc o'):=by
 have h2:=heap_alloc_last (w.alloc o) o';have e:(w.alloc o).heap.size=w.heap.size+1:=by simp
 rw [e] at h2;have b1:Below w.heap.size w (w.alloc o):=(Below.refl _ _).alloc (Nat.le_refl _) _;have b2:Below (w.alloc o).heap.size (w.alloc o) ((w.alloc o).alloc o'):=(Below.refl _ _).alloc (Nat.le_refl _) _;exact ⟨(b2.block w.heap.size (by omega)).trans (heap_alloc_last w o),h2,b1.trans (b2.mono (by omega))⟩
theorem J4 {R:Ending→World→Prop} {fn:Func} {a:Act} {W:World} {k v:Value} {b:Nat} (hf:fn.results=#[.cell 4 45,.tmp 5,.tmp 6]) (h2:a.tmps.getD 4 undef=.pointer (some ⟨b,0,none⟩)) (hd:a.defers=[])
  (hc:W.heap[b]? = some (.cells #[k,v] 45 (0,0))) (hR:R (.returned (.tuple #[.agg #[k,v],a.tmps.getD 5 undef,a.tmps.getD 6 undef])) W):bodyPost Tryz.prog fn R .ret a W:=by
 have hl:(loadVar 45 ⟨b,0,none⟩).run Tryz.prog W=.ok (.agg #[k,v]) W:=
  run_loadVar_row W b 45 45 #[k,v] (0,0) _ hc Tryz.underlying45 rfl (by kernel_rfl)
 refine bodyPost_ret ?_ hd hR;have h2':a.tmps[4]?.getD undef=.pointer (some ⟨b,0,none⟩):=by rw [← h2];simp
 simp [results,hf,h2',asAddr,hl]
def Zx3 (i:Nat) (o:Option ((Int × List UInt8) × Nat)) (e:Ending):Prop:=
 match o with
 | some p=>e=.returned (.tuple #[.agg #[.int .i64 p.1.1,.string ⟨p.1.2.toArray⟩],.int .i64 ((i+p.2:Nat):Int),.bool true])
 | none=>∃ (a:Int) (b:ByteArray) (k:Int),e=.returned (.tuple #[.agg #[.int .i64 a,.string b],.int .i64 k,.bool false])
theorem Zqm {l:List UInt8} (h:pre [46,46,46] l=true):J6 l=3:=by
 cases l with
 | nil=>cases h
 | cons b t=>rw [J6,if_pos h]
theorem Zj4 {l:List UInt8} (h:pre [46,46,46] l=true):Lb l=some ((1,[46,46,46]),3):=by
 have h3:l.take 3=[46,46,46]:=by
  unfold pre at h;rw [List.isPrefixOf_iff_prefix] at h;obtain ⟨t,rfl⟩:=h
  rfl
 rw [Lb,Zqm h,if_pos (by decide),h3]
theorem Zkg {b:UInt8} {t:List UInt8} (h:pre [46,46,46] (b :: t)=false) (hm:Jz b=true):Lb (b :: t)=some ((1,[b]),1):=by
 have e:J6 (b :: t)=1:=by rw [J6,h,hm];rfl
 rw [Lb,e,if_pos (by decide)];rfl
theorem Iq {b:UInt8} {t:List UInt8} (h:pre [46,46,46] (b :: t)=false) (hm:Jz b=false):J6 (b :: t)=0:=by rw [J6,h,hm];rfl
theorem Bq {b:UInt8} {t:List UInt8} (h:b=34):(nbL (b :: t)).1=0:=by
 subst h
 have:nmL (34 :: t)=(0,0):=by
  unfold nmL;have e:Zu (34 :: t)=0:=rfl;rw [e,List.drop_zero]
  have e2:Yc (34 :: t)=0:=by
   rw [Yc,if_neg (by decide),Xe,List.takeWhile_cons,if_neg (by decide)];rfl
  rw [e2,if_pos rfl]
 rw [nbL,this];rfl
theorem Lu {b:UInt8} {t:List UInt8} (h:Wf b=false):Je (b :: t)=0:=by rw [Je,h];rfl
theorem Tz {b:UInt8} {t:List UInt8} (h:b=34) (hp:pre [34,34,34] (b :: t)=true):Lb (b :: t)=(Pb ((b :: t).drop 3)).map fun q=>((5,Blk.valueL q.1),3+q.2):=by
 have h1:pre [46,46,46] (b :: t)=false:=by subst h;rfl
 have h2:Jz b=false:=by subst h;decide
 have h3:Wf b=false:=by subst h;decide
 rw [Lb,Iq h1 h2,Lu h3,Bq h];simp only [ne_eq,not_true_eq_false,if_false];rw [Xx,if_pos hp,Option.map_map]
 rfl
theorem Sz {b:UInt8} {t:List UInt8} (h:b=34) (hp:pre [34,34,34] (b :: t)=false):Lb (b :: t)=(J7 t).map fun q=>((5,q.1),1+q.2):=by
 have h1:pre [46,46,46] (b :: t)=false:=by subst h;rfl
 have h2:Jz b=false:=by subst h;decide
 have h3:Wf b=false:=by subst h;decide
 rw [Lb,Iq h1 h2,Lu h3,Bq h];simp only [ne_eq,not_true_eq_false,if_false];rw [Xx,hp,if_neg (by decide),if_pos (by subst h;decide),Option.map_map]
 rfl
theorem Zk5 {b:UInt8} {t:List UInt8} (h1:pre [46,46,46] (b :: t)=false) (h2:Jz b=false) (h3:Wf b=true):Lb (b :: t)=some ((2,(b :: t).take ((b :: t).takeWhile If).length),((b :: t).takeWhile If).length):=by
 have e:Je (b :: t)=((b :: t).takeWhile If).length:=by
  rw [Je,if_pos h3,List.takeWhile_cons,if_pos (by simp [If,h3]),List.length_cons];omega
 have hne:Je (b :: t) ≠ 0:=by rw [Je,if_pos h3];omega
 rw [Lb,Iq h1 h2];simp only [ne_eq,not_true_eq_false,if_false];rw [if_pos hne,e]
theorem Zvn {b:UInt8} {t:List UInt8} (h1:pre [46,46,46] (b :: t)=false) (h2:Jz b=false) (h3:Wf b=false) (h4:b ≠ 34):Lb (b :: t)=if (nbL (b :: t)).1 ≠ 0 then some (((nbL (b :: t)).2,(b :: t).take (nbL (b :: t)).1),(nbL (b :: t)).1) else none:=by
 rw [Lb,Iq h1 h2,Lu h3];simp only [ne_eq,not_true_eq_false,if_false]
 split
 · rfl
 · have hp:pre [34,34,34] (b :: t)=false:=by
    cases hp:pre [34,34,34] (b :: t) with
    | false=>rfl
    | true=>exact absurd (by unfold pre at hp;simp at hp;exact hp.1.symm) h4
   rw [Xx,hp,if_neg (by decide),if_neg (by simpa using h4)];rfl
theorem Zqp {b:UInt8} {t:List UInt8} (h:pre [34,34,34] (b :: t)=true):b=34:=by
 unfold pre at h;simp at h;exact h.1.symm
theorem Zxi (s:ByteArray) (a c E:Nat) (h:a+c=E):(s.extract a E).data.toList=(s.data.toList.drop a).take c:=by
 subst h;simp [ByteArray.data_extract,Array.toList_extract,List.extract]
theorem J8 {y:ByteArray} {k:Int} {i n:Nat} {m:Int} {l:List UInt8} (hx:(⟨l.toArray⟩:ByteArray)=y) (h:((i+n:Nat):Int)=m):Zx3 i (some ((k,l),n)) (.returned (.tuple #[.agg #[.int .i64 k,.string y],.int .i64 m,.bool true])):=by rw [← hx,← h];rfl
abbrev Yq4:Obj:=.cells #[.int .i64 0,.string ⟨#[]⟩] 45
theorem Yfm (s : ByteArray) (i:Nat) (w:World) (hs:s.size≤9000) (hi:i < s.size) (hg:Zm s.data.toList=true) :
   Calls Tryz.prog 29 #[.string s,.int .i64 i] w fun e w'=>Zx3 i (Lb (s.data.toList.drop i)) e∧Below w.heap.size w w':=by
 obtain ⟨h0,h1,hb0⟩:=Yi w Yq4 Yq4;have H0:=Hd h0;have H1:=Hd h1;have HB0:=Hd hb0;obtain ⟨z0,z1,zf0,zf1⟩:=Jp h0;obtain ⟨y0,y1,yf0,yf1⟩:=Jp h1;have HD:=fun w=>Hd (I8 s ⟨#[46,46,46]⟩ i w hs (by show 3≤9000;omega) (by omega));have HQ:=fun w=>Hd (I8 s ⟨#[34,34,34]⟩ i w hs (by show 3≤9000;omega) (by omega));have HI:=fun w=>Hd (Zqe s[i] w);have hdr:=Zc s i hi;have hi0:(0:Int)≤(i:Int):=by omega
 have hi':(i:Int) < (s.size:Int):=by omega
 clear h0 h1 hb0
 cases hd:pre [46,46,46] (s.data.toList.drop i)
 · rw [show pre (⟨#[46,46,46]⟩:ByteArray).data.toList (s.data.toList.drop i)=false from hd] at HD
   cases hmk:Jz s[i]
   · cases hq:pre [34,34,34] (s.data.toList.drop i)
     · rw [show pre (⟨#[34,34,34]⟩:ByteArray).data.toList (s.data.toList.drop i)=false from hq] at HQ
       by_cases h34:s[i]=34
       · have e34:((s[i].toNat:Int) == 34)=true:=by rw [h34];rfl
         have hv:=Sz (t:=s.data.toList.drop (i+1)) h34 (by rw [← hdr];exact hq);rw [← hdr] at hv;have HL:=fun w=>Hd (Zjt s (i+1) w hs (by omega) (Ym3 hg hi (by rw [h34];decide)));have c1:((i+1:Nat):Int)=(i:Int)+1:=by omega
         rw [c1] at HL
         cases hl:J7 (s.data.toList.drop (i+1)) with
         | none =>
           rw [hl] at HL hv;have HV:=Hd hv;have hmk':=Hd hmk;rw [show qV [] (i+1) none=.tuple #[.string ⟨#[]⟩,.int .i64 0,.bool false] from rfl] at HL;clear hv hl hdr hd hq h34
           go_enter Tryz.func29,Tryz.ntmps29
           go_wp2_with fail
           refine (HD _).out.mono ?_;rintro e w1 ⟨rfl,rfl⟩;go_wp2_with fail
           refine (HI _).out.mono ?_;rintro e w1 ⟨r,rfl,hr,rfl⟩
           have hr0 : ¬ r ≥ 0:=by
             rw [hmk] at hr
             simpa using hr
           clear hr HI;go_wp2_with fail
           refine (HQ _).out.mono ?_;rintro e w1 ⟨rfl,rfl⟩;go_wp2_with fail
           refine (HL _).out.mono ?_;rintro e w2 ⟨rfl,hb2⟩;have B0:=Hd ((hb2.block w.heap.size (by simp;omega)).trans H0.out);have BB:=Hd (HB0.out.trans (hb2.mono (by simp;omega)));obtain ⟨z0,z1,zf0,zf1⟩:=Jp B0.out;clear hb2 HL;go_wp2_with fail
           refine J4 rfl rfl rfl (Ls B0.out) ⟨?_,(BB.out.setCell (Nat.le_refl _) _).setCell (Nat.le_refl _) _⟩;rw [HV.out];exact ⟨_,_,_,rfl⟩
         | some q =>
           rw [hl] at HL hv;have HV:=Hd hv;have hmk':=Hd hmk;obtain ⟨X,hX⟩:∃ X:ByteArray,(⟨q.1.toArray⟩:ByteArray)=X:=⟨_,rfl⟩;rw [show qV [] (i+1) (some q)=.tuple #[.string X,.int .i64 ((i+1+q.2:Nat):Int),.bool true] by rw [← hX];rfl] at HL;obtain ⟨E,hE⟩:∃ E,i+1+q.2=E:=⟨_,rfl⟩;rw [hE] at HL;have HX:=Hd hX;have HE:=Hd hE;clear hv hl hdr hd hq h34 hX hE
           go_enter Tryz.func29,Tryz.ntmps29
           go_wp2_with fail
           refine (HD _).out.mono ?_;rintro e w1 ⟨rfl,rfl⟩;go_wp2_with fail
           refine (HI _).out.mono ?_;rintro e w1 ⟨r,rfl,hr,rfl⟩
           have hr0 : ¬ r ≥ 0:=by
             rw [hmk] at hr
             simpa using hr
           clear hr HI;go_wp2_with fail
           refine (HQ _).out.mono ?_;rintro e w1 ⟨rfl,rfl⟩;go_wp2_with fail
           refine (HL _).out.mono ?_;rintro e w2 ⟨rfl,hb2⟩;have B0:=Hd ((hb2.block w.heap.size (by simp;omega)).trans H0.out);have BB:=Hd (HB0.out.trans (hb2.mono (by simp;omega)));obtain ⟨z0,z1,zf0,zf1⟩:=Jp B0.out;clear hb2 HL;go_wp2_with fail
           refine J4 rfl rfl rfl (Ls B0.out) ⟨?_,(BB.out.setCell (Nat.le_refl _) _).setCell (Nat.le_refl _) _⟩;rw [HV.out];exact J8 HX.out (by have:=HE.out;omega)
       · have e34:((s[i].toNat:Int) == 34)=false:=Xo (n:=34) (by omega) h34
         cases hlet:Wf s[i]
         · -- a number,or nothing
           have HS:=fun w=>Hd (Cp (s[i].toNat:Int) w);rw [show Qz (s[i].toNat:Int)=false from hlet] at HS;have hv:=Zvn (t:=s.data.toList.drop (i+1)) (by rw [← hdr];exact hd) hmk hlet h34;rw [← hdr] at hv;have HN:=fun w=>Hd (Sn (s.extract i s.size) w (by rw [Ur];omega));rw [Xm] at HN;obtain ⟨n,hn⟩:∃ n,(nmL (s.data.toList.drop i)).1=n:=⟨_,rfl⟩;obtain ⟨kd,hkd⟩:∃ kd,(nmL (s.data.toList.drop i)).2=kd:=⟨_,rfl⟩;have hnl:=Fx (s.data.toList.drop i);rw [List.length_drop,Z7,hn] at hnl;rw [hn,hkd] at HN
           have hnum:nbL (s.data.toList.drop i)=if n=0 then (0,0) else if Jx (s.data.toList.drop (i+n)) then (0,0) else (n,kd):=by
             rw [nbL,hn,List.drop_drop,← hn,← hkd]
           have hmk':=Hd hmk
           by_cases hn0:n=0
           · have en:((n:Int) == 0)=true:=by simp;omega
             have HV:Hid (Lb (s.data.toList.drop i)=none):=Hd (by rw [hv,hnum,if_pos hn0];rfl);clear hv hnum hdr hd hq h34 hlet hn hkd
             go_enter Tryz.func29,Tryz.ntmps29
             go_wp2_with fail
             refine (HD _).out.mono ?_;rintro e w1 ⟨rfl,rfl⟩;go_wp2_with fail
             refine (HI _).out.mono ?_;rintro e w1 ⟨r,rfl,hr,rfl⟩
             have hr0 : ¬ r ≥ 0:=by
               rw [hmk] at hr
               simpa using hr
             clear hr HI;go_wp2_with fail
             refine (HQ _).out.mono ?_;rintro e w1 ⟨rfl,rfl⟩;go_wp2_with fail
             refine (HS _).out.mono ?_;rintro e w1 ⟨rfl,rfl⟩;go_wp2_with fail
             refine (HN _).out.mono ?_;rintro e w1 ⟨rfl,rfl⟩;go_wp2_with fail
             refine J4 rfl rfl rfl (Yi _ _ _).1 ⟨?_,(Yi _ _ _).2.2⟩;rw [HV.out];exact ⟨_,_,_,rfl⟩
           · have en : ((n:Int) == 0)=false:=by simp;omega
             obtain ⟨E,hE⟩:∃ E,i+n=E:=⟨_,rfl⟩;have gE:(i:Int)+(n:Int)=(E:Int):=by omega
             have g0:(0:Int)≤(E:Int):=by omega
             have g2:(i:Int)≤(E:Int):=by omega
             have g3:(E:Int)≤(s.size:Int):=by omega
             rw [hE] at hnum;have HX:Hid ((⟨((s.data.toList.drop i).take n).toArray⟩:ByteArray)=s.extract i E):=Hd (Gc (Zxi s i n E hE));have HE:=Hd hE;rw [if_neg hn0] at hnum
             have YES:Jx (s.data.toList.drop E)=false→Lb (s.data.toList.drop i)=some ((kd,(s.data.toList.drop i).take n),n):=fun hbh=>by
               rw [hv,hnum,hbh];simp [hn0]
             have NOT:Jx (s.data.toList.drop E)=true→Lb (s.data.toList.drop i)=none:=fun hbh=>by
               rw [hv,hnum,hbh];simp
             clear hv hnum hd hq hdr
             by_cases hEl:E < s.size
             · have hEl':(E:Int) < (s.size:Int):=by omega
               have hdE:=Zc s E hEl;have HSE:=fun w=>Hd (Cp (s[E].toNat:Int) w);have HDE:=fun w=>Hd (Uw (s[E].toNat:Int) w)
               cases hle:Qz (s[E].toNat:Int)
               · cases hde:Ro (s[E].toNat:Int)
                 · rw [hle] at HSE
                   rw [hde] at HDE
                   by_cases h46:s[E]=46
                   · have e46:((s[E].toNat:Int) == 46)=true:=by rw [h46];rfl
                     have HV:=Hd (NOT (by rw [hdE,h46];rfl));clear YES NOT hdE h46 hlet hn hkd h34 hle hde
                     go_enter Tryz.func29,Tryz.ntmps29
                     go_wp2_with fail
                     refine (HD _).out.mono ?_;rintro e w1 ⟨rfl,rfl⟩;go_wp2_with fail
                     refine (HI _).out.mono ?_;rintro e w1 ⟨r,rfl,hr,rfl⟩
                     have hr0 : ¬ r ≥ 0:=by
                      rw [hmk] at hr
                      simpa using hr
                     clear hr HI;go_wp2_with fail
                     refine (HQ _).out.mono ?_;rintro e w1 ⟨rfl,rfl⟩;go_wp2_with fail
                     refine (HS _).out.mono ?_;rintro e w1 ⟨rfl,rfl⟩;go_wp2_with fail
                     refine (HN _).out.mono ?_;rintro e w1 ⟨rfl,rfl⟩;go_wp2_with fail
                     refine (HSE _).out.mono ?_;rintro e w1 ⟨rfl,rfl⟩;go_wp2_with fail
                     refine (HDE _).out.mono ?_;rintro e w1 ⟨rfl,rfl⟩;go_wp2_with fail
                     refine J4 rfl rfl rfl (Yi _ _ _).1 ⟨?_,(Yi _ _ _).2.2⟩;rw [HV.out];exact ⟨_,_,_,rfl⟩
                   · have e46:((s[E].toNat:Int) == 46)=false:=Xo (n:=46) (by omega) h46
                     have HV:=Hd (YES (by rw [hdE];simp [Jx,Ip,Wf,hle,hde,h46]));clear YES NOT hdE h46 hlet hn hkd h34 hle hde
                     go_enter Tryz.func29,Tryz.ntmps29
                     go_wp2_with fail
                     refine (HD _).out.mono ?_;rintro e w1 ⟨rfl,rfl⟩;go_wp2_with fail
                     refine (HI _).out.mono ?_;rintro e w1 ⟨r,rfl,hr,rfl⟩
                     have hr0 : ¬ r ≥ 0:=by
                      rw [hmk] at hr
                      simpa using hr
                     clear hr HI;go_wp2_with fail
                     refine (HQ _).out.mono ?_;rintro e w1 ⟨rfl,rfl⟩;go_wp2_with fail
                     refine (HS _).out.mono ?_;rintro e w1 ⟨rfl,rfl⟩;go_wp2_with fail
                     refine (HN _).out.mono ?_;rintro e w1 ⟨rfl,rfl⟩;go_wp2_with fail
                     refine (HSE _).out.mono ?_;rintro e w1 ⟨rfl,rfl⟩;go_wp2_with fail
                     refine (HDE _).out.mono ?_;rintro e w1 ⟨rfl,rfl⟩;go_wp2_with fail
                     refine J4 rfl rfl rfl (Yi _ _ _).1 ⟨?_,(Yi _ _ _).2.2⟩;rw [HV.out];exact J8 HX.out (by have:=HE.out;omega)
                 · rw [hle] at HSE
                   rw [hde] at HDE;have HV:=Hd (NOT (by rw [hdE];simp [Jx,Ip,hde]));clear YES NOT hdE hlet hn hkd h34 hle hde
                   go_enter Tryz.func29,Tryz.ntmps29
                   go_wp2_with fail
                   refine (HD _).out.mono ?_;rintro e w1 ⟨rfl,rfl⟩;go_wp2_with fail
                   refine (HI _).out.mono ?_;rintro e w1 ⟨r,rfl,hr,rfl⟩
                   have hr0 : ¬ r ≥ 0:=by
                     rw [hmk] at hr
                     simpa using hr
                   clear hr HI;go_wp2_with fail
                   refine (HQ _).out.mono ?_;rintro e w1 ⟨rfl,rfl⟩;go_wp2_with fail
                   refine (HS _).out.mono ?_;rintro e w1 ⟨rfl,rfl⟩;go_wp2_with fail
                   refine (HN _).out.mono ?_;rintro e w1 ⟨rfl,rfl⟩;go_wp2_with fail
                   refine (HSE _).out.mono ?_;rintro e w1 ⟨rfl,rfl⟩;go_wp2_with fail
                   refine (HDE _).out.mono ?_;rintro e w1 ⟨rfl,rfl⟩;go_wp2_with fail
                   refine J4 rfl rfl rfl (Yi _ _ _).1 ⟨?_,(Yi _ _ _).2.2⟩;rw [HV.out];exact ⟨_,_,_,rfl⟩
               · rw [hle] at HSE
                 have HV:=Hd (NOT (by rw [hdE];simp [Jx,Wf,hle]));clear YES NOT hdE hlet hn hkd h34 hle
                 go_enter Tryz.func29,Tryz.ntmps29
                 go_wp2_with fail
                 refine (HD _).out.mono ?_;rintro e w1 ⟨rfl,rfl⟩;go_wp2_with fail
                 refine (HI _).out.mono ?_;rintro e w1 ⟨r,rfl,hr,rfl⟩
                 have hr0 : ¬ r ≥ 0:=by
                   rw [hmk] at hr
                   simpa using hr
                 clear hr HI;go_wp2_with fail
                 refine (HQ _).out.mono ?_;rintro e w1 ⟨rfl,rfl⟩;go_wp2_with fail
                 refine (HS _).out.mono ?_;rintro e w1 ⟨rfl,rfl⟩;go_wp2_with fail
                 refine (HN _).out.mono ?_;rintro e w1 ⟨rfl,rfl⟩;go_wp2_with fail
                 refine (HSE _).out.mono ?_;rintro e w1 ⟨rfl,rfl⟩;go_wp2_with fail
                 refine J4 rfl rfl rfl (Yi _ _ _).1 ⟨?_,(Yi _ _ _).2.2⟩;rw [HV.out];exact ⟨_,_,_,rfl⟩
             · have hEl' : ¬ (E:Int) < (s.size:Int):=by omega
               have HV:=Hd (YES (by rw [Ys s E (by omega)];rfl));clear YES NOT hlet hn hkd h34
               go_enter Tryz.func29,Tryz.ntmps29
               go_wp2_with fail
               refine (HD _).out.mono ?_;rintro e w1 ⟨rfl,rfl⟩;go_wp2_with fail
               refine (HI _).out.mono ?_;rintro e w1 ⟨r,rfl,hr,rfl⟩
               have hr0 : ¬ r ≥ 0:=by
                 rw [hmk] at hr
                 simpa using hr
               clear hr HI;go_wp2_with fail
               refine (HQ _).out.mono ?_;rintro e w1 ⟨rfl,rfl⟩;go_wp2_with fail
               refine (HS _).out.mono ?_;rintro e w1 ⟨rfl,rfl⟩;go_wp2_with fail
               refine (HN _).out.mono ?_;rintro e w1 ⟨rfl,rfl⟩;go_wp2_with fail
               refine J4 rfl rfl rfl (Yi _ _ _).1 ⟨?_,(Yi _ _ _).2.2⟩;rw [HV.out];exact J8 HX.out (by have:=HE.out;omega)
         · -- a word
           have HS:=fun w=>Hd (Cp (s[i].toNat:Int) w);rw [show Qz (s[i].toNat:Int)=true from hlet] at HS;have hv:=Zk5 (t:=s.data.toList.drop (i+1)) (by rw [← hdr];exact hd) hmk hlet;rw [← hdr] at hv;obtain ⟨n,hn⟩:∃ n,((s.data.toList.drop i).takeWhile If).length=n:=⟨_,rfl⟩;rw [hn] at hv
           have hnl:n≤s.size - i:=by
             have:=V5 If (s.data.toList.drop i);rw [hn,List.length_drop,Z7] at this;exact this
           obtain ⟨E,hE⟩:∃ E,i+n=E:=⟨_,rfl⟩;have g2:(i:Int)≤(E:Int):=by omega
           have g3:(E:Int)≤(s.size:Int):=by omega
           have HX:Hid ((⟨((s.data.toList.drop i).take n).toArray⟩:ByteArray)=s.extract i E):=Hd (Gc (Zxi s i n E hE));have HE:=Hd hE;have HV:=Hd hv;have HNn:=Hd hn;have hmk':=Hd hmk;clear hv hdr hd hq h34 hlet hn hE
           go_enter Tryz.func29,Tryz.ntmps29
           go_wp2_with fail
           refine (HD _).out.mono ?_;rintro e w1 ⟨rfl,rfl⟩;go_wp2_with fail
           refine (HI _).out.mono ?_;rintro e w1 ⟨r,rfl,hr,rfl⟩
           have hr0 : ¬ r ≥ 0:=by
             rw [hmk] at hr
             simpa using hr
           clear hr HI;go_wp2_with fail
           refine (HQ _).out.mono ?_;rintro e w1 ⟨rfl,rfl⟩;go_wp2_with fail
           refine (HS _).out.mono ?_;rintro e w1 ⟨rfl,rfl⟩;clear HS HQ HD hr0;go_wp2_with fail
           go_loopg [14] (s.size - i) (fun g jv wx=>∃ j:Nat,i≤j∧j+g=s.size∧jv=.int .i64 j∧Aside (j - i≤((s.data.toList.drop i).takeWhile If).length)∧wx=(w.alloc Yq4).alloc Yq4)
           case atStart=>exact ⟨i,Nat.le_refl _,by omega,rfl,Aside.intro (by omega),rfl⟩
           case round =>
             obtain ⟨j,hij,hjg,rfl,HJ,rfl⟩:=hrel;have hj0:(0:Int)≤(j:Int):=by omega
             by_cases hjl:j < s.size
             · have hjl':(j:Int) < (s.size:Int):=by omega
               have hat:(s.data.toList.drop i)[j - i]? = some s[j]:=by
                 rw [List.getElem?_drop,show i+(j - i)=j by omega];exact Sb s j hjl
               have HSE:=fun w=>Hd (Cp (s[j].toNat:Int) w);have HDE:=fun w=>Hd (Uw (s[j].toNat:Int) w)
               cases hle:Qz (s[j].toNat:Int)
               · cases hde:Ro (s[j].toNat:Int)
                 · obtain rfl:j=E:=by
                     have h1:=Ra HJ.out hat (by simp [If,Wf,Ip,hle,hde]);have h2:=HNn.out;have h3:=HE.out;omega
                   rw [hle] at HSE;rw [hde] at HDE;clear HJ hat hle hde;go_wp2_with fail
                   refine (HSE _).out.mono ?_;rintro e w1 ⟨rfl,rfl⟩;go_wp2_with fail
                   refine (HDE _).out.mono ?_;rintro e w1 ⟨rfl,rfl⟩;go_wp2_with fail
                   refine J4 rfl rfl rfl (Yi _ _ _).1 ⟨?_,(Yi _ _ _).2.2⟩;rw [HV.out];exact J8 HX.out (by have:=HE.out;omega)
                 · have hnx:=Hd (Rk HJ.out hat (by simp [If,Ip,hde]))
                   rw [hle] at HSE;rw [hde] at HDE;clear HJ hat hle hde;go_wp2_with fail
                   refine (HSE _).out.mono ?_;rintro e w1 ⟨rfl,rfl⟩;go_wp2_with fail
                   refine (HDE _).out.mono ?_;rintro e w1 ⟨rfl,rfl⟩;go_wp2_with fail
                   go_roundg (gk - 1)
                   case measure=>omega
                   case rel=>exact ⟨j+1,by omega,by omega,by go_num,Aside.intro (by have:=hnx.out;omega),rfl⟩
               · have hnx:=Hd (Rk HJ.out hat (by simp [If,Wf,hle]))
                 rw [hle] at HSE;clear HJ hat hle;go_wp2_with fail
                 refine (HSE _).out.mono ?_;rintro e w1 ⟨rfl,rfl⟩;go_wp2_with fail
                 go_roundg (gk - 1)
                 case measure=>omega
                 case rel=>exact ⟨j+1,by omega,by omega,by go_num,Aside.intro (by have:=hnx.out;omega),rfl⟩
             · obtain rfl:j=E:=by
                 have h1:=Yfh HJ.out (by rw [List.length_drop,Z7];omega);have h2:=HNn.out;have h3:=HE.out;omega
               have hjl' : ¬ (j:Int) < (s.size:Int):=by omega
               clear HJ;go_wp2_with fail
               refine J4 rfl rfl rfl (Yi _ _ _).1 ⟨?_,(Yi _ _ _).2.2⟩;rw [HV.out];exact J8 HX.out (by have:=HE.out;omega)
     · rw [show pre (⟨#[34,34,34]⟩:ByteArray).data.toList (s.data.toList.drop i)=true from hq] at HQ
       have h34:s[i]=34:=Zqp (t:=s.data.toList.drop (i+1)) (by rw [← hdr];exact hq);have hv:=Tz (t:=s.data.toList.drop (i+1)) h34 (by rw [← hdr];exact hq);rw [← hdr,List.drop_drop] at hv
       have h3:i+3≤s.size:=by
         have:=V9 hq;rw [List.length_drop,Z7] at this;simp at this
         omega
       have HL:=fun w=>Hd (Ty s (i+3) w hs h3);have c1:((i+3:Nat):Int)=(i:Int)+3:=by omega
       rw [c1] at HL
       cases hl:Pb (s.data.toList.drop (i+3)) with
       | none =>
         rw [hl] at HL hv;have HV:=Hd hv;have hmk':=Hd hmk;rw [show bV [] (i+3) none=.tuple #[.string ⟨#[]⟩,.int .i64 0,.bool false] from rfl] at HL;clear hv hl hdr hd hq h34
         go_enter Tryz.func29,Tryz.ntmps29
         go_wp2_with fail
         refine (HD _).out.mono ?_;rintro e w1 ⟨rfl,rfl⟩;go_wp2_with fail
         refine (HI _).out.mono ?_;rintro e w1 ⟨r,rfl,hr,rfl⟩
         have hr0 : ¬ r ≥ 0:=by
           rw [hmk] at hr
           simpa using hr
         clear hr HI;go_wp2_with fail
         refine (HQ _).out.mono ?_;rintro e w1 ⟨rfl,rfl⟩;go_wp2_with fail
         refine (HL _).out.mono ?_;rintro e w2 ⟨rfl,hb2⟩;have B0:=Hd ((hb2.block w.heap.size (by simp;omega)).trans H0.out);have BB:=Hd (HB0.out.trans (hb2.mono (by simp;omega)));obtain ⟨z0,z1,zf0,zf1⟩:=Jp B0.out;clear hb2 HL;go_wp2_with fail
         refine J4 rfl rfl rfl (Ls B0.out) ⟨?_,(BB.out.setCell (Nat.le_refl _) _).setCell (Nat.le_refl _) _⟩;rw [HV.out];exact ⟨_,_,_,rfl⟩
       | some q =>
         rw [hl] at HL hv;have HV:=Hd hv;have hmk':=Hd hmk;obtain ⟨X,hX⟩:∃ X:ByteArray,(⟨(Blk.valueL q.1).toArray⟩:ByteArray)=X:=⟨_,rfl⟩;rw [show bV [] (i+3) (some q)=.tuple #[.string X,.int .i64 ((i+3+q.2:Nat):Int),.bool true] by rw [← hX];rfl] at HL;obtain ⟨E,hE⟩:∃ E,i+3+q.2=E:=⟨_,rfl⟩;rw [hE] at HL;have HX:=Hd hX;have HE:=Hd hE;clear hv hl hdr hd hq h34 hX hE
         go_enter Tryz.func29,Tryz.ntmps29
         go_wp2_with fail
         refine (HD _).out.mono ?_;rintro e w1 ⟨rfl,rfl⟩;go_wp2_with fail
         refine (HI _).out.mono ?_;rintro e w1 ⟨r,rfl,hr,rfl⟩
         have hr0 : ¬ r ≥ 0:=by
           rw [hmk] at hr
           simpa using hr
         clear hr HI;go_wp2_with fail
         refine (HQ _).out.mono ?_;rintro e w1 ⟨rfl,rfl⟩;go_wp2_with fail
         refine (HL _).out.mono ?_;rintro e w2 ⟨rfl,hb2⟩;have B0:=Hd ((hb2.block w.heap.size (by simp;omega)).trans H0.out);have BB:=Hd (HB0.out.trans (hb2.mono (by simp;omega)));obtain ⟨z0,z1,zf0,zf1⟩:=Jp B0.out;clear hb2 HL;go_wp2_with fail
         refine J4 rfl rfl rfl (Ls B0.out) ⟨?_,(BB.out.setCell (Nat.le_refl _) _).setCell (Nat.le_refl _) _⟩;rw [HV.out];exact J8 HX.out (by have:=HE.out;omega)
   · have hv:=Zkg (t:=s.data.toList.drop (i+1)) (by rw [← hdr];exact hd) hmk
     rw [← hdr] at hv;have HV:=Hd hv;obtain ⟨E,hE⟩:∃ E,i+1=E:=⟨_,rfl⟩;have gE:(i:Int)+1=(E:Int):=by omega
     have g2:(i:Int)≤(E:Int):=by omega
     have g3:(E:Int)≤(s.size:Int):=by omega
     have HX:Hid ((⟨[s[i]].toArray⟩:ByteArray)=s.extract i E):=Hd (Gc (by rw [← hE];exact Rc s i hi));have HE:=Hd hE;clear hv hdr hd hE
     go_enter Tryz.func29,Tryz.ntmps29
     go_wp2_with fail
     refine (HD _).out.mono ?_;rintro e w1 ⟨rfl,rfl⟩;go_wp2_with fail
     refine (HI _).out.mono ?_;rintro e w1 ⟨r,rfl,hr,rfl⟩
     have hr0:r ≥ 0:=by
       rw [hmk] at hr
       simpa using hr
     clear hr HI;go_wp2_with fail
     refine J4 rfl rfl rfl (Yi _ _ _).1 ⟨?_,(Yi _ _ _).2.2⟩;rw [HV.out];exact J8 HX.out (by have:=HE.out;omega)
 · rw [show pre (⟨#[46,46,46]⟩:ByteArray).data.toList (s.data.toList.drop i)=true from hd] at HD
   have HV:=Hd (Zj4 hd);clear hdr hd
   go_enter Tryz.func29,Tryz.ntmps29
   go_wp2_with fail
   refine (HD _).out.mono ?_;rintro e w1 ⟨rfl,rfl⟩;go_wp2_with fail
   refine J4 rfl rfl rfl (Yi _ _ _).1 ⟨?_,(Yi _ _ _).2.2⟩;rw [HV.out];exact J8 rfl (by omega)
theorem Zkh {l:List UInt8} (h:X7 l=true):Zm l=true:=by
 rw [J9];unfold X7 Ix at h
 cases hc:Jc l with
 | none=>rw [hc] at h;cases h
 | some _=>rfl
theorem Nr:∀ (n:Nat) (l:List UInt8),l.length≤n→Ua (l.drop (Gp l))=Ua l:=by
 intro n
 induction n with
 | zero =>
   intro l h;have:l=[]:=List.eq_nil_of_length_eq_zero (by omega);subst this
   rfl
 | succ n ih =>
   intro l h
   by_cases h0:Jy l=0
   · rw [We h0,List.drop_zero]
   · rw [Fi h0,← List.drop_drop,ih _ (by rw [List.length_drop];omega),← Zz0 h0]
theorem Yc1 {i:Nat} {e:Ending} (h:Zx3 i none e):∃ (a:Int) (b:ByteArray) (k:Int),e=.returned (.tuple #[.agg #[.int .i64 a,.string b],.int .i64 k,.bool false]):=h
theorem Yd2 {i:Nat} {p:(Int × List UInt8) × Nat} {e:Ending} (h:Zx3 i (some p) e):e=.returned (.tuple #[.agg #[.int .i64 p.1.1,.string ⟨p.1.2.toArray⟩],.int .i64 ((i+p.2:Nat):Int),.bool true]):=h
def Yhq (w w':World) (p:List (Int × List UInt8) × Int) (e:Ending):Prop:=(∃ A cap,e=.returned (.tuple #[.slice A p.1.length cap,.int .i64 p.2])∧Eb w' A cap p.1)∧Below w.heap.size w w'
theorem Bt (w:World):Eb w none 0 []:=⟨fun j v h=>by simp [X8] at h,Nat.le_refl _⟩
theorem Zk7 (s:ByteArray) (w:World) (hs:s.size≤9000):Calls Tryz.prog 10 #[.string s] w fun e w'=>Yhq w w' (Zz s.data.toList) e:=by
 by_cases hbig:8192 < s.size
 · have hr:Hid (Zz s.data.toList=([],3)):=Hd (by unfold Zz;rw [if_pos (by rw [Z7];exact hbig)])
   have hb':(8192:Int) < (s.size:Int):=by omega
   go_enter Tryz.func10,Tryz.ntmps10
   go_wp2
   go_ret2
   exact ⟨⟨none,0,by rw [hr.out];rfl,by rw [hr.out];exact Bt _⟩,Below.refl _ _⟩
 · have hb' : ¬ (8192:Int) < (s.size:Int):=by omega
   have HSrc:=Hd (Zk9 s w hs)
   cases hsrc:X7 s.data.toList
   · have hr:Hid (Zz s.data.toList=([],2)):=Hd (by unfold Zz;rw [if_neg (by rw [Z7];exact hbig),if_pos hsrc])
     rw [hsrc] at HSrc;clear hsrc
     go_enter Tryz.func10,Tryz.ntmps10
     go_wp2_with fail
     refine HSrc.out.mono ?_;rintro e w1 ⟨rfl,hb1⟩;have HB1:=Hd hb1;clear hb1;go_wp2_with fail
     go_ret2
     exact ⟨⟨none,0,by rw [hr.out];rfl,by rw [hr.out];exact Bt _⟩,HB1.out⟩
   · have hr:Hid (Zz s.data.toList=match Ua s.data.toList with|none=>([],2)|some ts=>(ts,0)):=Hd (by unfold Zz;rw [if_neg (by rw [Z7];exact hbig),if_neg (by rw [hsrc];decide)];cases Ua s.data.toList<;>rfl)
     have HGd:=Hd (Zkh hsrc);obtain ⟨i0,hii,hz0,hz1,hz2⟩:=info_parts Zxn;obtain ⟨RL,hRL⟩:∃ RL,Ua s.data.toList=RL:=⟨_,rfl⟩;rw [hRL] at hr;have HS0:=fun w=>Hd (Tu s 0 w hs (Nat.zero_le _));obtain ⟨a0,ha0⟩:∃ a,0+Gp (s.data.toList.drop 0)=a:=⟨_,rfl⟩;have ha0':a0=Gp s.data.toList:=by rw [← ha0,Nat.zero_add,List.drop_zero]
     have ha0s:a0≤s.size:=by rw [ha0',← Z7];exact Ybe _ _ (Nat.le_refl _)
     have hstart:Hid ((Ua (s.data.toList.drop a0)).map ([] ++ ·)=RL):=Hd (by
      rw [ha0',Nr _ _ (Nat.le_refl _),hRL];cases RL<;>rfl)
     have hgap0:Hid (Jy (s.data.toList.drop a0)=0):=Hd (by rw [ha0'];exact Zxp _ _ (Nat.le_refl _));rw [ha0] at HS0;have c0:((0:Nat):Int)=0:=rfl;rw [c0] at HS0;rw [hsrc] at HSrc;clear hsrc hRL ha0 ha0' c0
     go_enter Tryz.func10,Tryz.ntmps10
     go_wp2_with fail
     refine HSrc.out.mono ?_;rintro e w1 ⟨rfl,hb1⟩;have HB1:=Hd hb1;have hbs1:=hb1.size;clear hb1;go_wp2_with fail
     refine (HS0 _).out.mono ?_;rintro e w2 ⟨rfl,rfl⟩;clear HS0 HSrc;go_wp2_with fail
     go_loopg [4,5,6,7,8] (s.size - a0) (fun g ov iv pv kv bv wx=>∃ (i:Nat) (done:List (Int × List UInt8)),i+g=s.size∧iv=.int .i64 i∧done.length≤i∧Aside (Jy (s.data.toList.drop i)=0)∧Aside ((Ua (s.data.toList.drop i)).map (done ++ ·)=RL)∧wx.ownsRow w1.heap.size 45 2 ov done.length (X8 done)∧Below w1.heap.size w1 wx)
     case atStart=>exact ⟨a0,[],by omega,rfl,Nat.zero_le _,Aside.intro hgap0.out,Aside.intro hstart.out,World.ownsRow_nil _ _ _ _,Below.refl _ _⟩
     case round =>
      obtain ⟨i,done,hig,rfl,hdl,HGp,H,hown,hb⟩:=hrel;obtain ⟨A,cap,rfl⟩:=Vt hown;have hbs:=hb.size;have HB:=Hd hb;have hi0:(0:Int)≤(i:Int):=by omega
      clear hb
      by_cases hlt:i < s.size
      · have hlt':(i:Int) < (s.size:Int):=by omega
        have hne:s.data.toList.drop i ≠ []:=by rw [Zc s i hlt];simp
        have HN:=Hd (Yfm s i wr hs hlt HGd.out)
        cases ht:Lb (s.data.toList.drop i) with
        | none =>
          rw [ht] at HN
          have hr2:Hid (Zz s.data.toList=([],2)):=Hd (by
           have h:=H.out;rw [Ny HGp.out hne ht] at h;rw [hr.out,← h];rfl)
          clear H HGp hne ht hown;go_wp2_with fail
          refine HN.out.mono ?_;rintro e w3 ⟨he,hb3⟩;obtain ⟨a,b,k,rfl⟩:=Yc1 he;have HB3:=Hd ((HB1.out.trans ((HB.out.trans (hb3.mono hbs)).mono hbs1)));have h3s:=HB3.out.size;clear hb3 he HN;go_wp2_with fail
          go_ret2
          exact ⟨⟨none,0,by rw [hr2.out];rfl,by rw [hr2.out];exact Bt _⟩,HB3.out.alloc h3s _⟩
        | some p =>
          rw [ht] at HN;obtain ⟨⟨K,TL⟩,n⟩:=p;have hp:=Zkc ht;simp only at hp;rw [List.length_drop,Z7] at hp;obtain ⟨T,hT⟩:∃ T:ByteArray,(⟨TL.toArray⟩:ByteArray)=T:=⟨_,rfl⟩;have hTd:TL=T.data.toList:=by rw [← hT]
          obtain ⟨E,hE⟩:∃ E,i+n=E:=⟨_,rfl⟩;have hEs:E≤s.size:=by omega
          have hiE:i+1≤E:=by omega
          have HSk:=fun w=>Hd (Tu s E w hs hEs);obtain ⟨j,hj⟩:∃ j,E+Gp (s.data.toList.drop E)=j:=⟨_,rfl⟩
          have hjs:j≤s.size:=by
           have:=Ybe _ (s.data.toList.drop E) (Nat.le_refl _);rw [List.length_drop,Z7] at this;omega
          have hEj:E≤j:=by omega
          have HGj:Hid (Jy (s.data.toList.drop j)=0):=Hd (by rw [← hj,← List.drop_drop];exact Zxp _ _ (Nat.le_refl _))
          have HRj:Hid ((Ua (s.data.toList.drop j)).map ((done++[(K,TL)]) ++ ·)=RL):=Hd (by
           have h:=H.out;rw [Bw HGp.out hne ht] at h;simp only at h;rw [List.drop_drop,hE,← Nr _ (s.data.toList.drop E) (Nat.le_refl _),List.drop_drop,hj,Option.map_map] at h;rw [← h]
           congr 1
           funext r
           simp)
          rw [hj] at HSk;have HTd:=Hd hTd;have HEi:=Hd hE;have hn1:1≤n:=hp.1;clear H HGp hne ht hj hp hTd;go_wp2_with fail
          refine HN.out.mono ?_;rintro e w3 ⟨he,hb3⟩;have he':=Yd2 he;simp only at he';rw [hT,hE] at he';subst he';have hown3:=(Xh hown hb3).alloc (.cells #[.int .i64 K,.string T] 45);have HB3:=Hd hb3;have hb3s:=hb3.size;have hTE:=Hd hT;clear hb3 hown he HN hT hE
          go_wp2_with (at_builtin;refine wpList_append_own _ rfl _ _ 38 rfl w1.heap.size 45 i0 (.agg #[.int .i64 0,.string ⟨#[]⟩]) 2 24 Tryz.underlying38 hii hz0 hz1 hz2 rfl (by decide) _ _ _ rfl (hown3.alloc _) _ 1 1 [.int .i64 K,.string T] rfl rfl (Ic _ _ _ _ (by simp)) (by intro x hx;simp at hx;rcases hx with rfl|rfl<;>rfl) (by unfold maxLen;omega) (by omega) (by simp;omega) ?_;intro v' w4 hown' hgrow _;obtain ⟨A',cap',rfl⟩:=Vt hown';have HG4:=Hd hgrow;have HO4:=Hd hown';have HW:=Hd hown3;clear hgrow hown' hown3)
          refine (HSk _).out.mono ?_;rintro e w5 ⟨rfl,rfl⟩;have hb5:Below w1.heap.size w1 ((w3.alloc (.cells #[.int .i64 K,.string T] 45)).alloc (.cells #[.int .i64 K,.string T] 45)):=((HB.out.trans (HB3.out.mono hbs)).alloc (by omega) _).alloc (by simp;omega) _;go_wp2_with fail
          go_roundg (s.size - j)
          case measure=>omega
          case rel=>exact ⟨j,done++[(K,TL)],by omega,rfl,by have:=HEi.out;simp;omega,Aside.intro HGj.out,Aside.intro HRj.out,by rw [I0,List.length_append,hTE.out];exact HO4.out,hb5.grown HG4.out (by have:=hb5.size;omega) (fun q hq=>(HW.out.lt q hq).1)⟩
      · have hge : ¬ (i:Int) < (s.size:Int):=by omega
        have hr2:Hid (Zz s.data.toList=(done,0)):=Hd (by
          have h:=H.out;rw [Ys s i (by omega),Dz] at h;rw [hr.out,← h];simp)
        have HT:=Hd (Yi6 hown);clear H HGp hown;go_wp2_with fail
        go_ret2
        exact ⟨⟨A,cap,by rw [hr2.out];rfl,by rw [hr2.out];exact HT.out⟩,HB1.out.trans (HB.out.mono hbs1)⟩
variable {nT:Nat}
def So (l:List UInt8):StP:=if (Zz l).2 ≠ 0 then .error (Zz l).2 else .ok (C8 (Zz l).1)
theorem Yi4 {w:World} {A:Option Addr} {cap:Nat} {l:List UInt8} (h:Eb w A cap (Zz l).1) (hl:(Zz l).1.length≤200000):RP (Zz l).1.length (w.alloc (.cells #[.slice A (Zz l).1.length cap,.int .i64 0,.int .i64 0,.int .i64 (Zz l).2] 43)) w.heap.size 0 (So l):=by
 refine ⟨A,cap,0,0,(Zz l).2,C8 (Zz l).1,by rw [U3];exact heap_alloc_new _ _,by rw [U3];exact hl,Nat.zero_le _,fun j t ht=>?_,U3 _,?_⟩
 · obtain ⟨h0,h1⟩:=Gt _ j t ht
   obtain ⟨g,hA,hg,c0⟩:=h.1 _ _ h0;obtain ⟨g',hA',_,c1⟩:=h.1 _ _ h1;rw [hA] at hA';have hA':=Option.some.inj hA';injection hA' with e _ _
   subst e;have hs:=Below.heap_alloc w (.cells #[.slice A (Zz l).1.length cap,.int .i64 0,.int .i64 0,.int .i64 (Zz l).2] 43) g hg;exact ⟨g,0,hA,hg,by rw [Nat.zero_add];exact (World.cell?_of_block (a:=⟨g,j*2,none⟩) hs).trans c0,by rw [Nat.zero_add];exact (World.cell?_of_block (a:=⟨g,j*2+1,none⟩) hs).trans c1⟩
 · unfold So
   by_cases hx:(Zz l).2 ≠ 0
   · rw [if_pos hx];exact ⟨rfl,hx⟩
   · rw [if_neg hx];exact ⟨by simpa using hx,rfl,rfl⟩
theorem RP.place {w:World} {r d:Nat} {ts:List Tok} (h:RP nT w r d (.ok ts)):∃ (A:Option Addr) (c p:Nat) (dd:Int),w.heap[r]? = some (.cells #[.slice A nT c,.int .i64 p,.int .i64 dd,.int .i64 0] 43 (0,0))∧p+ts.length=nT∧ts.length≤200000:=by
 obtain ⟨A,c,p,dd,x,all,h0,h1,h2,h3,h5,h4,h6,h7⟩:=h;subst h4 h7;refine ⟨A,c,p,dd,by rw [← h5];exact h0,by rw [List.length_drop,← h5];omega,by rw [List.length_drop];omega⟩
end Go.Proofs.YtkmloefbkgcbkaaGreatDoor
