/- The walks of token's mark and word. -/
import Derived.Test.YtpkmbhnikilihaaGreatDoorQr4
import Derived.Lib.ItoaNum
import Derived.Lib.ParseIntB
import Derived.Shelf.Strconv.ParseIntPublic10
import Derived.Shelf.Strconv.Itoa4
import Derived.Lib.LaidTab
import Derived.Lib.SmallJoins
import Derived.Lib.AtoiErrMem
set_option maxRecDepth 100000
set_option maxHeartbeats 1000000
namespace Go.Proofs.YtpkmbhnikilihaaGreatDoor
open Go.RowKit
theorem Jr {R:Ending→World→Prop} {fn:Func} {a:Act} {W:World} {k v:Value} {b:Nat} (hf:fn.results=#[.cell 2 70,.tmp 3]) (h2:a.tmps.getD 2 undef=.pointer (some ⟨b,0,none⟩)) (hd:a.defers=[])
  (hc:W.heap[b]? = some (.cells #[k,v] 70 (0,0))) (hR:R (.returned (.tuple #[.agg #[k,v],a.tmps.getD 3 undef])) W):bodyPost Tryz.prog fn R .ret a W:=by
 have hl:(loadVar 70 ⟨b,0,none⟩).run Tryz.prog W=.ok (.agg #[k,v]) W:=
  run_loadVar_row W b 70 70 #[k,v] (0,0) _ hc Tryz.underlying70 rfl (by kernel_rfl)
 refine bodyPost_ret ?_ hd hR
 have h2':a.tmps[2]?.getD undef=.pointer (some ⟨b,0,none⟩):=by rw [← h2];simp
 simp [results,hf,h2',asAddr,hl]
theorem Ykm {k n m:Int} {x y:ByteArray} (hx:x=y) (h:n=m):Ending.returned (.tuple #[.agg #[.int .i64 k,.string x],.int .i64 n])=.returned (.tuple #[.agg #[.int .i64 k,.string y],.int .i64 m]):=by rw [hx,h]
def Zzo (k:Int) (l:List UInt8) (n:Nat):Value:=if n=0 then .tuple #[.agg #[.int .i64 0,.string ⟨#[]⟩],.int .i64 0] else .tuple #[.agg #[.int .i64 k,.string ⟨l.toArray⟩],.int .i64 n]
theorem Yk4 (k:Int) (l:List UInt8):Zzo k l 0=.tuple #[.agg #[.int .i64 0,.string ⟨#[]⟩],.int .i64 0]:=rfl
theorem Fy {k:Int} {l:List UInt8} {n:Nat} (h:n ≠ 0):Zzo k l n=.tuple #[.agg #[.int .i64 k,.string ⟨l.toArray⟩],.int .i64 n]:=if_neg h
theorem Ya0:∀ b:UInt8,decide (Lib.indexByte [33,36,38,40,41,58,61,64,91,93,123,124,125] b < 0) = !Vc b:=Zw (by decide +kernel)
theorem Yeq (s:ByteArray) (w:World):Calls Tryz.prog 137 #[.string s] w fun e w'=>e=.returned (Zzo 1 (s.data.toList.take (J4 s.data.toList)) (J4 s.data.toList))∧Below w.heap.size w w':=by
 cases hp:pre [46,46,46] s.data.toList
 · have HP:=Hd (Zyk s ⟨#[46,46,46]⟩ (w.alloc (.cells #[.int .i64 0,.string ⟨#[]⟩] 70)) false hp)
   rcases Nat.eq_zero_or_pos s.size with h0|h0
   · have hr:Hid (J4 s.data.toList=0):=Hd (by rw [J9 h0];rfl)
     have he:=Eb h0
     clear hp
     go_enter Tryz.func137,Tryz.ntmps137
     go_wp2_with fail
     refine HP.out.mono ?_
     rintro e w1 ⟨rfl,rfl⟩
     go_wp2_with fail
     refine Jr rfl rfl rfl (heap_alloc_last _ _) ⟨?_,Zz⟩
     rw [hr.out]
     rfl
   · have he:=Ge h0
     have hm:J4 s.data.toList=if Vc s[0] then 1 else 0:=by
       rw [Vi s h0] at hp ⊢
       simp only [J4,hp]
       rfl
     have hI:=Fp ⟨#[33,36,38,40,41,58,61,64,91,93,123,124,125]⟩ (s[0].toNat:Int) (w.alloc (.cells #[.int .i64 0,.string ⟨#[]⟩] 70))
     have hx:=Ya0 s[0]
     rw [show ((s[0].toNat:Int).toNat.toUInt8)=s[0] by simp] at hI
     obtain ⟨r,hR⟩:∃ r,Lib.indexByte (⟨#[33,36,38,40,41,58,61,64,91,93,123,124,125]⟩:ByteArray).data.toList s[0]=r:=⟨_,rfl⟩
     rw [hR] at hI
     have hx':decide (r < 0) = !Vc s[0]:=by rw [← hR];exact hx
     have HI:=Hd hI
     clear hx hI hR hp
     cases hb:Vc s[0]
     · have hr:Hid (J4 s.data.toList=0):=Hd (by rw [hm,hb];rfl)
       have hneg:r < 0:=by rw [hb] at hx';simpa using hx'
       clear hm hb hx'
       go_enter Tryz.func137,Tryz.ntmps137
       go_wp2_with fail
       refine HP.out.mono ?_
       rintro e w1 ⟨rfl,rfl⟩
       go_wp2_with fail
       refine HI.out.mono ?_
       rintro e w1 ⟨rfl,rfl⟩
       go_wp2_with fail
       refine Jr rfl rfl rfl (heap_alloc_last _ _) ⟨?_,Zz⟩
       rw [hr.out]
       rfl
     · have hr:Hid (J4 s.data.toList=1):=Hd (by rw [hm,hb];rfl)
       have hneg : ¬ r < 0:=by rw [hb] at hx';simpa using hx'
       have h1:1≤s.size:=h0
       clear hm hb hx'
       go_enter Tryz.func137,Tryz.ntmps137
       go_wp2_with fail
       refine HP.out.mono ?_
       rintro e w1 ⟨rfl,rfl⟩
       go_wp2_with fail
       refine HI.out.mono ?_
       rintro e w1 ⟨rfl,rfl⟩
       go_wp2_with fail
       refine Jr rfl rfl rfl (heap_alloc_last _ _) ⟨?_,Zz⟩
       rw [hr.out,Fy (by omega)]
       exact Ykm (Gz (Cq s 1)).symm rfl
 · have HP:=Hd (Zyk s ⟨#[46,46,46]⟩ (w.alloc (.cells #[.int .i64 0,.string ⟨#[]⟩] 70)) true hp)
   have hr:Hid (J4 s.data.toList=3∧s.data.toList.take 3=[46,46,46]):=Hd (by
     have h3:=Vk hp
     rw [Z6] at h3
     refine ⟨?_,?_⟩
     · have h0:0 < s.size:=by simp at h3;omega
       rw [Vi s h0] at hp ⊢
       simp only [J4,hp]
       rfl
     · unfold pre at hp
       rw [List.isPrefixOf_iff_prefix] at hp
       exact (List.prefix_iff_eq_take.1 hp).symm)
   clear hp
   go_enter Tryz.func137,Tryz.ntmps137
   go_wp2_with fail
   refine HP.out.mono ?_
   rintro e w1 ⟨rfl,rfl⟩
   go_wp2_with fail
   refine Jr rfl rfl rfl (heap_alloc_last _ _) ⟨?_,Zz⟩
   rw [hr.out.1,hr.out.2,Fy (by omega)]
   rfl
def Nj (l:List UInt8) (k:Nat):Prop:=k=0∨Ji l=k+((l.drop k).takeWhile If).length
theorem Rv {l:List UInt8} (h:Jg Wj l=true):Nj l 1:=by
 cases l with
 | nil=>cases h
 | cons b t =>
   have h':Wj b=true:=h
   refine .inr ?_
   simp [Ji,h']
theorem Zj9 {l:List UInt8} (h:Jg Wj l=false):Ji l=0:=by
 cases l with
 | nil=>rfl
 | cons b t =>
   have h':Wj b=false:=h
   simp [Ji,h']
theorem M9 {l:List UInt8} {k:Nat} (h:Nj l k) (hk:k ≠ 0) (hb:Jg If (l.drop k)=true):Nj l (k+1):=by
 rcases h with h|h
 · exact absurd h hk
 refine .inr ?_
 rw [h,show k+1=k+1 from rfl,← List.drop_drop]
 cases hl:l.drop k with
 | nil=>rw [hl] at hb;cases hb
 | cons b t =>
   rw [hl] at hb
   have hb':If b=true:=hb
   rw [List.takeWhile_cons]
   simp [hb']
   omega
theorem Zvh {l:List UInt8} {k:Nat} (h:Nj l k) (hk:k ≠ 0) (hb:Jg If (l.drop k)=false):Ji l=k:=by
 rcases h with h|h
 · exact absurd h hk
 rw [h]
 cases hl:l.drop k with
 | nil=>simp
 | cons b t =>
   rw [hl] at hb
   have hb':If b=false:=hb
   rw [List.takeWhile_cons]
   simp [hb']
theorem Zz1 (l:List UInt8):Jg If l=(Jg Wj l || Jg Iu l):=by
 cases l<;>rfl
theorem Ny (s:ByteArray) (k:Nat) (w:World):Calls Tryz.prog 223 #[.string (s.extract k s.size)] w fun e w'=>e=.returned (.bool (Jg Wj (s.data.toList.drop k)))∧w=w':=by
 have h:=Zj4 (s.extract k s.size) w
 rwa [Xl] at h
theorem Te (s:ByteArray) (k:Nat) (w:World):Calls Tryz.prog 224 #[.string (s.extract k s.size)] w fun e w'=>e=.returned (.bool (Jg Iu (s.data.toList.drop k)))∧w=w':=by
 have h:=Np (s.extract k s.size) w
 rwa [Xl] at h
theorem Yd0 {s:ByteArray} {k:Nat} {p:UInt8→Bool} (h:Jg p (s.data.toList.drop k)=true):k < s.size:=by
 rcases Nat.lt_or_ge k s.size with h'|h'
 · exact h'
 · rw [Yp s k h'] at h;cases h
theorem Yen (s:ByteArray) (w:World) (hs:s.size≤1100000):Calls Tryz.prog 166 #[.string s] w fun e w'=>e=.returned (Zzo 2 (s.data.toList.take (Ji s.data.toList)) (Ji s.data.toList))∧Below w.heap.size w w':=by
 go_enter Tryz.func166,Tryz.ntmps166
 go_wp2
 go_loopg [4] s.size (fun g i wx=>∃ k:Nat,k+g=s.size∧i=.int .i64 k∧wx=w.alloc (.cells #[.int .i64 0,.string ⟨#[]⟩] 70)∧Aside (Nj s.data.toList k))
 case atStart=>exact ⟨0,by omega,rfl,rfl,Aside.intro (.inl rfl)⟩
 case round =>
  obtain ⟨k,hk,rfl,rfl,H⟩:=hrel
  have hks:(k:Int)≤(s.size:Int):=by omega
  have hk0:(0:Int)≤(k:Int):=by omega
  have HL:=Hd (Ny s k (w.alloc (.cells #[.int .i64 0,.string ⟨#[]⟩] 70)))
  have HD:=Hd (Te s k (w.alloc (.cells #[.int .i64 0,.string ⟨#[]⟩] 70)))
  cases hb:Jg Wj (s.data.toList.drop k)
  · rcases Nat.eq_zero_or_pos k with hz|hz
    · have hr:Hid (Ji s.data.toList=0):=Hd (Zj9 (by rwa [hz,List.drop_zero] at hb))
      have hb':=Hd hb
      have e0:((k:Int) == 0)=true:=by simp;omega
      have e1 : ¬ (0:Int) < (k:Int):=by omega
      clear H hb hz
      go_wp2_with fail
      refine HL.out.mono ?_
      rintro e w1 ⟨rfl,rfl⟩
      rw [hb'.out]
      go_wp2_with fail
      refine Jr rfl rfl rfl (heap_alloc_last _ _) ⟨?_,Zz⟩
      rw [hr.out]
      rfl
    · have hz':(0:Int) < (k:Int):=by omega
      cases hd:Jg Iu (s.data.toList.drop k)
      · have hr:Hid (Ji s.data.toList=k):=Hd (Zvh H.out (by omega) (by rw [Zz1,hb,hd];rfl))
        have hb':=Hd hb
        have hd':=Hd hd
        have e0:((k:Int) == 0)=false:=by simp;omega
        clear H hb hd
        go_wp2_with fail
        refine HL.out.mono ?_
        rintro e w1 ⟨rfl,rfl⟩
        rw [hb'.out]
        go_wp2_with fail
        refine HD.out.mono ?_
        rintro e w1 ⟨rfl,rfl⟩
        rw [hd'.out]
        go_wp2_with fail
        refine Jr rfl rfl rfl (heap_alloc_last _ _) ⟨?_,Zz⟩
        rw [hr.out,Fy (by omega)]
        exact Ykm (Gz (Cq s k)).symm rfl
      · have hlt:=Yd0 hd
        have hr:=Hd (M9 H.out (by omega) (by rw [Zz1,hb,hd];rfl))
        have hb':=Hd hb
        have hd':=Hd hd
        clear H hb hd
        go_wp2_with fail
        refine HL.out.mono ?_
        rintro e w1 ⟨rfl,rfl⟩
        rw [hb'.out]
        go_wp2_with fail
        refine HD.out.mono ?_
        rintro e w1 ⟨rfl,rfl⟩
        rw [hd'.out]
        go_wp2_with fail
        go_roundg (gk - 1)
        case measure=>omega
        case rel=>exact ⟨k+1,by omega,by go_num,rfl,Aside.intro hr.out⟩
  · have hlt:=Yd0 hb
    have hr:Hid (Nj s.data.toList (k+1)):=Hd (by
      rcases Nat.eq_zero_or_pos k with hz|hz
      · subst hz
        exact Rv (by rwa [List.drop_zero] at hb)
      · exact M9 H.out (by omega) (by rw [Zz1,hb];rfl))
    have hb':=Hd hb
    clear H hb
    go_wp2_with fail
    refine HL.out.mono ?_
    rintro e w1 ⟨rfl,rfl⟩
    rw [hb'.out]
    go_wp2_with fail
    go_roundg (gk - 1)
    case measure=>omega
    case rel=>exact ⟨k+1,by omega,by go_num,rfl,Aside.intro hr.out⟩
theorem Yk2 (s:ByteArray) (k:Nat) (w:World) (hs:s.size≤1100000):Calls Tryz.prog 227 #[.string (s.extract k s.size)] w fun e w'=>e=.returned (.int .i64 (Vp (s.data.toList.drop k)))∧w=w':=by
 have h:=Tz (s.extract k s.size) w (by rw [Us];omega)
 rwa [Xl] at h
theorem Yiy (s:ByteArray) (k:Nat) (w:World) (hs:s.size≤1100000):Calls Tryz.prog 228 #[.string (s.extract k s.size)] w fun e w'=>e=.returned (.int .i64 (Js (s.data.toList.drop k)))∧w=w':=by
 have h:=Rn (s.extract k s.size) w (by rw [Us];omega)
 rwa [Xl] at h
theorem Yho (s:ByteArray) (k:Nat) (w:World) (b:Bool) (h:Jg (fun b=>b == 46) (s.data.toList.drop k)=b):Calls Tryz.prog 199 #[.string (s.extract k s.size),.string ⟨#[46]⟩] w fun e w'=>e=.returned (.bool b)∧w=w':=
 Zyk (s.extract k s.size) ⟨#[46]⟩ w b (by rw [Xl];exact (Bb 46 _).trans h)
theorem Zja (l:List UInt8):Zm l=if Jg (fun b=>b == 45) l then 1 else 0:=by cases l<;>rfl
theorem Zxr (s:ByteArray) (w:World):∃ t:ByteArray,t.size+Zm s.data.toList=s.size∧Calls Tryz.prog 225 #[.string s,.string ⟨#[45]⟩] w fun e w'=>e=.returned (.string t)∧w=w':=by
 refine ⟨⟨(Lib.trimPrefix s.data.toList [45]).toArray⟩,?_,(Mi s ⟨#[45]⟩ w).mono fun _ _ ⟨he,hw⟩=>⟨he,hw.symm⟩⟩
 rw [Qf,Zja]
 have hl:=Z6 s
 cases hb:Jg (fun b=>b == 45) s.data.toList
 · rw [show Lib.trimPrefix s.data.toList [45]=s.data.toList from if_neg (by show ¬ pre [45] s.data.toList=true;rw [Bb,hb];simp)]
   simp [hl]
 · rw [show Lib.trimPrefix s.data.toList [45]=s.data.toList.drop 1 from if_pos (by show pre [45] s.data.toList=true;rw [Bb,hb])]
   have:s.data.toList ≠ []:=by intro e;rw [e] at hb;cases hb
   have:s.data.toList.length ≠ 0:=fun e=>this (List.eq_nil_of_length_eq_zero e)
   rw [List.length_drop]
   simp only [if_true]
   omega
theorem To (l:List UInt8):Y4 l=0 ↔ Xe l=0:=by
 cases l with
 | nil=>simp [Y4,Xe]
 | cons b t =>
   simp only [Y4]
   split
   · rename_i h
     have:b=48:=by simpa using h
     subst this
     rw [Qa (by decide)]
     omega
   · exact Iff.rfl
theorem Mr {l:List UInt8} {m W f x K K2 N:Nat} (hm:Zm l=m) (hW:Y4 (l.drop m)=W) (h0:W ≠ 0) (hK:m+W=K) (hf:Vp (l.drop K)=f) (hK2:K+f=K2) (hx:Js (l.drop K2)=x) (hN:K2+x=N) :
  nmL l=(N,if f=0∧x=0 then 3 else 4):=by
 unfold nmL
 subst hm hW hK hf hK2 hx hN
 rw [if_neg h0]
theorem Zqg (l:List UInt8):Vl l=(Jg Iu l || Jg Wj l || Jg (fun b=>b == 46) l):=by cases l<;>rfl
theorem Wv {l:List UInt8} {N:Nat} {k:Int} (h:nmL l=(N,k)) (hb:Vl (l.drop N)=true):nbL l=(0,0):=by
 unfold nbL
 rw [h]
 simp only [hb]
 split<;>rfl
theorem Zj5 {l:List UInt8} {N:Nat} {k:Int} (h:nmL l=(N,k)) (h0:N ≠ 0) (hb:Vl (l.drop N)=false):nbL l=(N,k):=by
 unfold nbL
 rw [h]
 simp [hb,h0]
abbrev Ybm:Obj:=.cells #[.int .i64 0,.string ⟨#[]⟩] 70
theorem Zyc (s:ByteArray) (w:World) (hs:s.size≤1100000):Calls Tryz.prog 167 #[.string s] w fun e w'=>e=.returned (Zzo (nbL s.data.toList).2 (s.data.toList.take (nbL s.data.toList).1) (nbL s.data.toList).1)∧Below w.heap.size w w':=by
 obtain ⟨t,ht,hT⟩:=Zxr s (w.alloc Ybm)
 have hml:=Tx s.data.toList
 rw [Z6] at hml
 obtain ⟨m,hM⟩:∃ m,Zm s.data.toList=m:=⟨_,rfl⟩
 rw [hM] at ht hml
 have hD:=Jx s m (w.alloc Ybm) hs
 have hrl:=Vn (s.data.toList.drop m)
 rw [List.length_drop,Z6] at hrl
 have hwr:=To (s.data.toList.drop m)
 obtain ⟨r,hR⟩:∃ r,Xe (s.data.toList.drop m)=r:=⟨_,rfl⟩
 rw [hR] at hD hrl hwr
 have E0:(s.size:Int) - (t.size:Int)=(m:Int):=by omega
 have hm0:(m:Int)≤(s.size:Int):=by omega
 have HT:=Hd hT
 have HD:=Hd hD
 have HM:=Hd hM
 clear hT hD hM ht
 rcases Nat.eq_zero_or_pos r with hz|hz
 · have hr:Hid (nbL s.data.toList=(0,0)):=Hd (by
    unfold nbL nmL
    rw [HM.out,if_pos (hwr.2 hz)]
    rfl)
   have e0:((r:Int) == 0)=true:=by simp;omega
   clear hz hwr hR
   go_enter Tryz.func167,Tryz.ntmps167
   go_wp2_with fail
   refine HT.out.mono ?_
   rintro e w1 ⟨rfl,rfl⟩
   go_wp2_with fail
   refine HD.out.mono ?_
   rintro e w1 ⟨rfl,rfl⟩
   go_wp2_with fail
   refine Jr rfl rfl rfl (heap_alloc_last _ _) ⟨?_,Zz⟩
   rw [hr.out]
   rfl
 · have e0:((r:Int) == 0)=false:=by simp;omega
   have hmlt:m < s.size:=by omega
   have hmlt':(m:Int) < (s.size:Int):=by omega
   have hwd:Y4 (s.data.toList.drop m)=if s[m] == 48 then 1 else r:=by
    rw [← hR,Z9 s m hmlt];rfl
   have hwl:=Bc (s.data.toList.drop m)
   rw [List.length_drop,Z6] at hwl
   obtain ⟨W,hW⟩:∃ W,Y4 (s.data.toList.drop m)=W:=⟨_,rfl⟩
   rw [hW] at hwd hwl hwr
   have hW0:W ≠ 0:=fun h=>by have:=hwr.1 h;omega
   obtain ⟨K,hK⟩:∃ K,m+W=K:=⟨_,rfl⟩
   have E1:(m:Int)+(W:Int)=(K:Int):=by omega
   have hKs:(K:Int)≤(s.size:Int):=by omega
   have hF:=Yk2 s K (w.alloc Ybm) hs
   have hfl:=Zku (s.data.toList.drop K)
   rw [List.length_drop,Z6] at hfl
   obtain ⟨f,hf⟩:∃ f,Vp (s.data.toList.drop K)=f:=⟨_,rfl⟩
   rw [hf] at hF hfl
   obtain ⟨K2,hK2⟩:∃ K2,K+f=K2:=⟨_,rfl⟩
   have E2:(K:Int)+(f:Int)=(K2:Int):=by omega
   have hK2s:(K2:Int)≤(s.size:Int):=by omega
   have hX:=Yiy s K2 (w.alloc Ybm) hs
   have hxl:=Zki (s.data.toList.drop K2)
   rw [List.length_drop,Z6] at hxl
   obtain ⟨x,hx⟩:∃ x,Js (s.data.toList.drop K2)=x:=⟨_,rfl⟩
   rw [hx] at hX hxl
   obtain ⟨N,hN⟩:∃ N,K2+x=N:=⟨_,rfl⟩
   have E3:(K2:Int)+(x:Int)=(N:Int):=by omega
   have hNs:(N:Int)≤(s.size:Int):=by omega
   have hNum:=Hd (Mr HM.out hW hW0 hK hf hK2 hx hN)
   have HF:=Hd hF
   have HX:=Hd hX
   have HN0:Hid (N ≠ 0):=Hd (by omega)
   have HWD:=Hd hwd
   have HK:=Hd hK
   have HK2:=Hd hK2
   have HN:=Hd hN
   clear hF hX hwd hwr hW hK hf hK2 hx hN hz hR hfl hxl hwl hW0 hrl
   go_enter Tryz.func167,Tryz.ntmps167
   go_wp2_with fail
   refine HT.out.mono ?_
   rintro e w1 ⟨rfl,rfl⟩
   go_wp2_with fail
   refine HD.out.mono ?_
   rintro e w1 ⟨rfl,rfl⟩
   go_upto_if 26 with (fail)
   go_cut [5] (fun wv wx=>wv=.int .i64 W∧wx=w.alloc Ybm)
   case first =>
    cases hb:(s[m] == 48)
    · obtain ⟨b1,b2⟩:=Ow hb 48 rfl
      obtain rfl:W=r:=by have:=HWD.out;rw [hb] at this;exact this
      clear hb
      go_wp2_with fail
      go_meet
      exact ⟨rfl,rfl⟩
    · obtain ⟨b1,b2⟩:=On hb 48 rfl
      obtain rfl:W=1:=by have:=HWD.out;rw [hb] at this;exact this
      clear hb
      go_wp2_with fail
      go_meet
      exact ⟨rfl,rfl⟩
   case rest =>
    obtain ⟨rfl,rfl⟩:=hcut
    go_upto_if 35 with (fail)
    refine HF.out.mono ?_
    rintro e w1 ⟨rfl,rfl⟩
    go_upto_if 35 with (fail)
    go_cut [4,6] (fun nv kv wx=>nv=.int .i64 K2∧kv=.int .i64 (if f=0 then 3 else 4)∧wx=w.alloc Ybm)
    case first =>
      rcases Nat.eq_zero_or_pos f with hz|hz
      · have hz' : ¬ (0:Int) < (f:Int):=by omega
        have HZ:=Hd hz
        clear hz
        go_wp2_with fail
        go_meet
        exact ⟨by have:=HK2.out;have:=HZ.out;congr 1;omega,by rw [if_pos HZ.out],rfl⟩
      · have hz':(0:Int) < (f:Int):=by omega
        have HZ:=Hd hz
        clear hz
        go_wp2_with fail
        go_meet
        exact ⟨rfl,by have:=HZ.out;rw [if_neg (by omega)],rfl⟩
    case rest =>
      obtain ⟨rfl,rfl,rfl⟩:=hcut
      obtain ⟨k1,hk1⟩:∃ k1:Int,(if f=0 then 3 else 4:Int)=k1:=⟨_,rfl⟩
      rw [hk1]
      have HK1:=Hd hk1
      clear hk1
      go_upto_if 44 with (fail)
      refine HX.out.mono ?_
      rintro e w1 ⟨rfl,rfl⟩
      go_upto_if 44 with (fail)
      go_cut [4,6] (fun nv kv wx=>nv=.int .i64 N∧kv=.int .i64 (if f=0∧x=0 then 3 else 4)∧wx=w.alloc Ybm)
      case first =>
        rcases Nat.eq_zero_or_pos x with hz|hz
        · have hz' : ¬ (0:Int) < (x:Int):=by omega
          have HZ:=Hd hz
          clear hz
          go_wp2_with fail
          go_meet
          exact ⟨by have:=HN.out;have:=HZ.out;congr 1;omega,by rw [← HK1.out];have:=HZ.out;simp [this],rfl⟩
        · have hz':(0:Int) < (x:Int):=by omega
          have HZ:=Hd hz
          clear hz
          go_wp2_with fail
          go_meet
          exact ⟨rfl,by have:=HZ.out;rw [if_neg (by omega)],rfl⟩
      case rest =>
        obtain ⟨rfl,rfl,rfl⟩:=hcut
        obtain ⟨k2,hk2⟩:∃ k2:Int,(if f=0∧x=0 then 3 else 4:Int)=k2:=⟨_,rfl⟩
        rw [hk2]
        have hnum:=hNum.out
        rw [hk2] at hnum
        have HNU:=Hd hnum
        clear hk2 hnum hNum HK1
        have HDG:=Hd (Te s N (w.alloc Ybm))
        have HLT:=Hd (Ny s N (w.alloc Ybm))
        have hbh:=Zqg (s.data.toList.drop N)
        cases hd:Jg Iu (s.data.toList.drop N)
        · cases hl:Jg Wj (s.data.toList.drop N)
          · cases hp:Jg (fun b=>b == 46) (s.data.toList.drop N)
            · have HP:=Hd (Yho s N (w.alloc Ybm) false hp)
              have hr:=Hd (Zj5 HNU.out HN0.out (by rw [hbh,hd,hl,hp];rfl))
              have hd':=Hd hd
              have hl':=Hd hl
              clear hbh hd hl hp
              go_wp2_with fail
              refine HDG.out.mono ?_
              rintro e w1 ⟨rfl,rfl⟩
              rw [hd'.out]
              go_wp2_with fail
              refine HLT.out.mono ?_
              rintro e w1 ⟨rfl,rfl⟩
              rw [hl'.out]
              go_wp2_with fail
              refine HP.out.mono ?_
              rintro e w1 ⟨rfl,rfl⟩
              go_wp2_with fail
              refine Jr rfl rfl rfl (heap_alloc_last _ _) ⟨?_,Zz⟩
              rw [hr.out,Fy HN0.out]
              exact Ykm (Gz (Cq s N)).symm rfl
            · have HP:=Hd (Yho s N (w.alloc Ybm) true hp)
              have hr:=Hd (Wv HNU.out (by rw [hbh,hd,hl,hp];rfl))
              have hd':=Hd hd
              have hl':=Hd hl
              clear hbh hd hl hp
              go_wp2_with fail
              refine HDG.out.mono ?_
              rintro e w1 ⟨rfl,rfl⟩
              rw [hd'.out]
              go_wp2_with fail
              refine HLT.out.mono ?_
              rintro e w1 ⟨rfl,rfl⟩
              rw [hl'.out]
              go_wp2_with fail
              refine HP.out.mono ?_
              rintro e w1 ⟨rfl,rfl⟩
              go_wp2_with fail
              refine Jr rfl rfl rfl (heap_alloc_last _ _) ⟨?_,Zz⟩
              rw [hr.out]
              rfl
          · have hr:=Hd (Wv HNU.out (by rw [hbh,hd,hl];rfl))
            have hd':=Hd hd
            have hl':=Hd hl
            clear hbh hd hl
            go_wp2_with fail
            refine HDG.out.mono ?_
            rintro e w1 ⟨rfl,rfl⟩
            rw [hd'.out]
            go_wp2_with fail
            refine HLT.out.mono ?_
            rintro e w1 ⟨rfl,rfl⟩
            rw [hl'.out]
            go_wp2_with fail
            refine Jr rfl rfl rfl (heap_alloc_last _ _) ⟨?_,Zz⟩
            rw [hr.out]
            rfl
        · have hr:=Hd (Wv HNU.out (by rw [hbh,hd];rfl))
          have hd':=Hd hd
          clear hbh hd
          go_wp2_with fail
          refine HDG.out.mono ?_
          rintro e w1 ⟨rfl,rfl⟩
          rw [hd'.out]
          go_wp2_with fail
          refine Jr rfl rfl rfl (heap_alloc_last _ _) ⟨?_,Zz⟩
          rw [hr.out]
          rfl
def Zx6:List UInt8:=[110,117,108,108]
def Yac:List UInt8:=[116,114,117,101]
def Zkj:List UInt8:=[102,97,108,115,101]
def Ycl (l:List UInt8):Nat:=l.foldl (fun a b=>a*10+(b.toNat - 48)) 0
def Mm:List UInt8→Int
 | []=>0
 | b :: t=>if b=45 then -(Ycl t:Int) else (Ycl (b :: t):Int)
def Ja (z:Int):Bool:=decide (-9223372036854775808≤z∧z≤9223372036854775807)
def VL.app:VL→VL→VL
 | .nil,r=>r
 | .cons v t,r=>.cons v (t.app r)
theorem Po {b:UInt8} (h:Iu b=true):48≤b.toNat∧b.toNat≤57:=by
 unfold Iu Qt at h
 have:=of_decide_eq_true h
 omega
def De (a:Nat) (l:List UInt8):Nat:=l.foldl (fun a b=>a*10+(b.toNat - 48)) a
theorem Th:∀ (l:List UInt8) (a:Nat),a≤De a l
 | [],a=>Nat.le_refl _
 | b :: l,a=>by
   show a≤De (a*10+(b.toNat - 48)) l
   have:=Th l (a*10+(b.toNat - 48))
   omega
theorem Cb:(45:UInt8).toNat=45:=rfl
theorem Qk {b:UInt8} (h:Iu b=true):b ≠ 45:=by
 intro e;subst e;have:=Po h;rw [Cb] at this;omega
theorem Wz {l:List UInt8} (h:l.all Iu=true):Mm l=(Ycl l:Int):=by
 cases l with
 | nil=>rfl
 | cons b t =>
   rw [List.all_cons,Bool.and_eq_true] at h
   show (if b=45 then -(Ycl t:Int) else (Ycl (b :: t):Int))=_
   rw [if_neg (Qk h.1)]
theorem Bp (l:List UInt8):Mm (45 :: l) = -(Ycl l:Int):=by
 show (if (45:UInt8)=45 then -(Ycl l:Int) else (Ycl (45 :: l):Int))=_
 rw [if_pos rfl]
theorem Yij {l:List UInt8} (h:Xe l=l.length):l.all Iu=true:=by
 induction l with
 | nil=>rfl
 | cons b t ih =>
   unfold Xe at ih h
   rw [List.takeWhile_cons] at h
   split at h
   · rename_i hb
     rw [List.all_cons,hb,ih (by simpa using h)];rfl
   · simp at h
theorem Ci {l : List UInt8} (h:Up l=3):∃ m,Zm l=m∧(l.drop m).all Iu=true∧l.drop m ≠ []:=by
 unfold Up at h
 split at h
 · omega
 · rename_i hlt
   unfold nbL at h hlt
   split at h
   · simp at h
   · rename_i h0
     rw [if_neg h0] at hlt
     split at h
     · simp at h
     · rename_i hb
       rw [if_neg hb] at hlt
       refine ⟨Zm l,rfl,?_⟩
       by_cases hw:Y4 (l.drop (Zm l))=0
       · exact absurd (by unfold nmL;rw [if_pos hw]) h0
       · unfold nmL at h hlt
         rw [if_neg hw] at h hlt
         simp only at h hlt
         split at h
         · rename_i hfx
           obtain ⟨hf1,hf2⟩:=hfx
           rw [hf1,Nat.add_zero] at hf2
           rw [hf1,Nat.add_zero,hf2,Nat.add_zero] at hlt
           have hwl:=Bc (l.drop (Zm l))
           rw [List.length_drop] at hwl
           have hwe:Y4 (l.drop (Zm l))=(l.drop (Zm l)).length:=by rw [List.length_drop];omega
           generalize l.drop (Zm l)=r at hw hwe
           cases r with
           | nil=>exact absurd rfl hw
           | cons b t =>
             refine ⟨?_,by simp⟩
             by_cases hb:b=48
             · subst hb
               have:Y4 ((48:UInt8) :: t)=1:=rfl
               rw [this] at hwe
               have ht:t=[]:=List.eq_nil_of_length_eq_zero (by rw [List.length_cons] at hwe;omega)
               subst ht;rfl
             · have:Y4 (b :: t)=Xe (b :: t):=by
                show (if (b == 48)=true then 1 else Xe (b :: t))=_
                rw [if_neg (by simpa using hb)]
               exact Yij (by rw [← this,hwe])
         · simp at h
theorem Ymv (l:List UInt8):∀ (a:Nat),a≤18446744073709551615→l.all Iu=true→Lib.parseUintM 18446744073709551615 a l=if De a l≤18446744073709551615 then .ok (De a l) else .range:=by
 induction l with
 | nil=>intro a ha _;show Lib.NumEnd.ok a=_;rw [show De a []=a from rfl,if_pos ha]
 | cons b t ih =>
   intro a ha h
   rw [List.all_cons,Bool.and_eq_true] at h
   have hd:=Po h.1
   have hm:De a (b :: t)=De (a*10+(b.toNat - 48)) t:=rfl
   have hmono:=Th t (a*10+(b.toNat - 48))
   unfold Lib.parseUintM
   rw [if_pos hd,hm]
   split
   · rw [if_neg (by omega)]
   · split
     · rw [if_neg (by omega)]
     · exact ih _ (by omega) h.2
theorem My (c:UInt8) (r:List UInt8):Lib.parseIntB 64 (c :: r)=(match Lib.parseUintB 64 (if c.toNat=43∨c.toNat=45 then r else c :: r) with
 | Lib.NumEnd.syntax=>Lib.NumEnd.syntax
 | .range=>.range
 | .ok u=>if ¬ c.toNat=45∧2 ^ (64 - 1)≤u then .range else if c.toNat=45∧2 ^ (64 - 1) < u then .range else .ok (if c.toNat=45 then -(u:Int) else u)):=rfl
theorem Sq {r:List UInt8} (hn:r ≠ []) (hd:r.all Iu=true):Lib.parseUintB 64 r=if De 0 r≤18446744073709551615 then .ok (De 0 r) else .range:=by
 unfold Lib.parseUintB
 rw [if_neg hn]
 exact Ymv r 0 (by omega) hd
theorem T9 {l:List UInt8} (h:Up l=3):Lib.parseIntB 64 l=if Ja (Mm l)=true then .ok (Mm l) else .range:=by
 obtain ⟨m,hm,hd,hn⟩:=Ci h
 cases l with
 | nil=>rw [List.drop_nil] at hn;exact absurd rfl hn
 | cons c r =>
   by_cases hc:c=45
   · subst hc
     have:m=1:=hm.symm
     subst this
     rw [show (45 :: r).drop 1=r from rfl] at hd hn
     have hi:Mm (45 :: r) = -(De 0 r:Int):=Bp r
     rw [hi,My,if_pos (Or.inr Cb),Sq hn hd]
     by_cases h1:De 0 r≤18446744073709551615
     · rw [if_pos h1]
       simp only [Cb]
       by_cases h2:9223372036854775808 < De 0 r
       · have hf:Ja (-(De 0 r:Int))=false:=by unfold Ja;exact decide_eq_false (by omega)
         rw [hf,if_neg (by simp),if_pos ⟨trivial,by omega⟩,if_neg (by simp)]
       · have hf:Ja (-(De 0 r:Int))=true:=by unfold Ja;exact decide_eq_true (by omega)
         rw [hf,if_neg (by simp),if_neg (by omega),if_pos trivial,if_pos rfl]
     · have hf:Ja (-(De 0 r:Int))=false:=by unfold Ja;exact decide_eq_false (by omega)
       rw [if_neg h1,hf,if_neg (by simp)]
   · have hm0:m=0:=by rw [← hm];show (if (c == 45)=true then 1 else 0)=0;rw [if_neg (by simpa using hc)]
     subst hm0
     rw [List.drop_zero] at hd
     have hcd:Iu c=true:=by rw [List.all_cons,Bool.and_eq_true] at hd;exact hd.1
     have hcb:=Po hcd
     rw [Wz hd,My,if_neg (by omega),Sq (by simp) hd]
     have hD:Ycl (c :: r)=De 0 (c :: r):=rfl
     rw [hD]
     have hc45 : ¬ c.toNat=45:=by omega
     by_cases h1:De 0 (c :: r)≤18446744073709551615
     · rw [if_pos h1]
       simp only
       by_cases h2:9223372036854775808≤De 0 (c :: r)
       · have hf:Ja (De 0 (c :: r):Int)=false:=by unfold Ja;exact decide_eq_false (by omega)
         rw [hf,if_pos ⟨hc45,by omega⟩,if_neg (by simp)]
       · have hf:Ja (De 0 (c :: r):Int)=true:=by unfold Ja;exact decide_eq_true (by omega)
         rw [hf,if_neg (by omega),if_neg (by omega),if_pos rfl,if_neg hc45]
     · have hf:Ja (De 0 (c :: r):Int)=false:=by unfold Ja;exact decide_eq_false (by omega)
       rw [if_neg h1,hf,if_neg (by simp)]
open Go.Shelf Go.RowKit Go.Sort
def Zzs:Go.Shelf.Ren:=⟨fun|129=>278|171=>299|174=>189|205=>298|243=>307|245=>241|246=>198|247=>240|279=>273|280=>274|281=>275|282=>276|283=>244|284=>245|285=>246|286=>247|287=>272|316=>297|317=>277|318=>279|319=>280|320=>281|321=>295|322=>296|337=>300|338=>301|n=>n,fun|0=>0|2=>2|3=>3|4=>4|5=>5|9=>9|20=>20|21=>21|37=>100|46=>167|51=>243|53=>238|75=>105|80=>110|85=>212|127=>176|143=>284|145=>286|167=>254|168=>257|171=>237|173=>241|175=>255|210=>278|212=>262|213=>263|232=>287|233=>288|n=>n,fun|15=>2|16=>3|17=>0|18=>5|19=>6|n=>n⟩
theorem Yat:Go.Proofs.Lays.n174 Tryz.prog Zzs:={
 mixed:=by kernel_rfl
 f129:=Tryz.func278.trans (congrArg some (by kernel_rfl))
 f171:=Tryz.func299.trans (congrArg some (by kernel_rfl))
 f174:=Tryz.func189.trans (congrArg some (by kernel_rfl))
 f205:=Tryz.func298.trans (congrArg some (by kernel_rfl))
 f243:=Tryz.func307.trans (congrArg some (by kernel_rfl))
 f245:=Tryz.func241.trans (congrArg some (by kernel_rfl))
 f246:=Tryz.func198.trans (congrArg some (by kernel_rfl))
 f247:=Tryz.func240.trans (congrArg some (by kernel_rfl))
 f279:=Tryz.func273.trans (congrArg some (by kernel_rfl))
 f280:=Tryz.func274.trans (congrArg some (by kernel_rfl))
 f281:=Tryz.func275.trans (congrArg some (by kernel_rfl))
 f282:=Tryz.func276.trans (congrArg some (by kernel_rfl))
 f283:=Tryz.func244.trans (congrArg some (by kernel_rfl))
 f284:=Tryz.func245.trans (congrArg some (by kernel_rfl))
 f285:=Tryz.func246.trans (congrArg some (by kernel_rfl))
 f286:=Tryz.func247.trans (congrArg some (by kernel_rfl))
 f287:=Tryz.func272.trans (congrArg some (by kernel_rfl))
 f316:=Tryz.func297.trans (congrArg some (by kernel_rfl))
 f317:=Tryz.func277.trans (congrArg some (by kernel_rfl))
 f318:=Tryz.func279.trans (congrArg some (by kernel_rfl))
 f319:=Tryz.func280.trans (congrArg some (by kernel_rfl))
 f320:=Tryz.func281.trans (congrArg some (by kernel_rfl))
 f321:=Tryz.func295.trans (congrArg some (by kernel_rfl))
 f322:=Tryz.func296.trans (congrArg some (by kernel_rfl))
 f337:=Tryz.func300.trans (congrArg some (by kernel_rfl))
 f338:=Tryz.func301.trans (congrArg some (by kernel_rfl))
 t0:=Tryz.underlying0
 a0:=Tryz.isAgg0
 z0:=Tryz.sizeOf0
 v0:=Tryz.zeroValue0
 t2:=Tryz.underlying2
 a2:=Tryz.isAgg2
 z2:=Tryz.sizeOf2
 v2:=Tryz.zeroValue2
 t3:=Tryz.underlying3
 a3:=Tryz.isAgg3
 z3:=Tryz.sizeOf3
 v3:=Tryz.zeroValue3
 t4:=Tryz.underlying4
 a4:=Tryz.isAgg4
 z4:=Tryz.sizeOf4
 v4:=Tryz.zeroValue4
 t5:=Tryz.underlying5
 a5:=Tryz.isAgg5
 z5:=Tryz.sizeOf5
 v5:=Tryz.zeroValue5
 t9:=Tryz.underlying9
 a9:=Tryz.isAgg9
 z9:=Tryz.sizeOf9
 v9:=Tryz.zeroValue9
 t20:=Tryz.underlying20
 a20:=Tryz.isAgg20
 z20:=Tryz.sizeOf20
 v20:=Tryz.zeroValue20
 t21:=Tryz.underlying21
 a21:=Tryz.isAgg21
 z21:=Tryz.sizeOf21
 v21:=Tryz.zeroValue21
 t37:=Tryz.underlying100
 a37:=Tryz.isAgg100
 z37:=Tryz.sizeOf100
 v37:=Tryz.zeroValue100
 t46:=Tryz.underlying167
 a46:=Tryz.isAgg167
 z46:=Tryz.sizeOf167
 v46:=Tryz.zeroValue167
 t51:=Tryz.underlying243
 a51:=Tryz.isAgg243
 z51:=Tryz.sizeOf243
 v51:=Tryz.zeroValue243
 t53:=Tryz.underlying238
 a53:=Tryz.isAgg238
 z53:=Tryz.sizeOf238
 v53:=Tryz.zeroValue238
 t75:=Tryz.underlying105
 a75:=Tryz.isAgg105
 z75:=Tryz.sizeOf105
 v75:=Tryz.zeroValue105
 t85:=Tryz.underlying212
 a85:=Tryz.isAgg212
 z85:=Tryz.sizeOf212
 v85:=Tryz.zeroValue212
 t127:=Tryz.underlying176
 a127:=Tryz.isAgg176
 z127:=Tryz.sizeOf176
 v127:=Tryz.zeroValue176
 t143:=Tryz.underlying284
 a143:=Tryz.isAgg284
 z143:=Tryz.sizeOf284
 v143:=Tryz.zeroValue284
 t145:=Tryz.underlying286
 a145:=Tryz.isAgg286
 z145:=Tryz.sizeOf286
 v145:=Tryz.zeroValue286
 t167:=Tryz.underlying254
 a167:=Tryz.isAgg254
 z167:=Tryz.sizeOf254
 v167:=Tryz.zeroValue254
 t168:=Tryz.underlying257
 a168:=Tryz.isAgg257
 z168:=Tryz.sizeOf257
 v168:=Tryz.zeroValue257
 t171:=Tryz.underlying237
 a171:=Tryz.isAgg237
 z171:=Tryz.sizeOf237
 v171:=Tryz.zeroValue237
 t173:=Tryz.underlying241
 a173:=Tryz.isAgg241
 z173:=Tryz.sizeOf241
 v173:=Tryz.zeroValue241
 t175:=Tryz.underlying255
 a175:=Tryz.isAgg255
 z175:=Tryz.sizeOf255
 v175:=Tryz.zeroValue255
 t210:=Tryz.underlying278
 a210:=Tryz.isAgg278
 z210:=Tryz.sizeOf278
 v210:=Tryz.zeroValue278
 t212:=Tryz.underlying262
 a212:=Tryz.isAgg262
 z212:=Tryz.sizeOf262
 v212:=Tryz.zeroValue262
 t213:=Tryz.underlying263
 a213:=Tryz.isAgg263
 z213:=Tryz.sizeOf263
 t232:=Tryz.underlying287
 a232:=Tryz.isAgg287
 z232:=Tryz.sizeOf287
 v232:=Tryz.zeroValue287
 t233:=Tryz.underlying288
 a233:=Tryz.isAgg288
 z233:=Tryz.sizeOf288
 v233:=Tryz.zeroValue288
 g15:=by kernel_rfl
 g16:=by kernel_rfl
 g17:=by kernel_rfl
 g18:=by kernel_rfl
 g19:=by kernel_rfl }
theorem Ya3:Go.Proofs.LaysM.n174 Tryz.prog Zzs:={ Yat with
 t80:=Tryz.underlying110
 a80:=Tryz.isAgg110
 z80:=Tryz.sizeOf110
 v80:=Tryz.zeroValue110
 i0:=by kernel_rfl
 i2:=by kernel_rfl
 i3:=by kernel_rfl
 i4:=by kernel_rfl
 i5:=by kernel_rfl
 i9:=by kernel_rfl
 i20:=by kernel_rfl
 i21:=by kernel_rfl
 i37:=by kernel_rfl
 i46:=by kernel_rfl
 i51:=by kernel_rfl
 i53:=by kernel_rfl
 i75:=by kernel_rfl
 i80:=by kernel_rfl
 i85:=by kernel_rfl
 i127:=by kernel_rfl
 i143:=by kernel_rfl
 i145:=by kernel_rfl
 i167:=by kernel_rfl
 i168:=by kernel_rfl
 i171:=by kernel_rfl
 i173:=by kernel_rfl
 i175:=by kernel_rfl
 i210:=by kernel_rfl
 i212:=by kernel_rfl
 i232:=by kernel_rfl
 i233:=by kernel_rfl
 m15:=by kernel_rfl
 m16:=by kernel_rfl
 m17:=by kernel_rfl
 m18:=by kernel_rfl
 m19:=by kernel_rfl }
theorem Zji:Go.Proofs.LaysC.n174 Tryz.prog Zzs:={ Ya3 with
 c0:=by kernel_rfl
 c2:=by kernel_rfl
 c3:=by kernel_rfl
 c4:=by kernel_rfl
 c5:=by kernel_rfl
 c9:=by kernel_rfl
 c20:=by kernel_rfl
 c21:=by kernel_rfl
 c37:=by kernel_rfl
 c46:=by kernel_rfl
 c51:=by kernel_rfl
 c53:=by kernel_rfl
 c75:=by kernel_rfl
 c80:=by kernel_rfl
 c85:=by kernel_rfl
 c127:=by kernel_rfl
 c143:=by kernel_rfl
 c145:=by kernel_rfl
 c167:=by kernel_rfl
 c168:=by kernel_rfl
 c171:=by kernel_rfl
 c173:=by kernel_rfl
 c175:=by kernel_rfl
 c210:=by kernel_rfl
 c212:=by kernel_rfl
 c213:=by kernel_rfl
 c232:=by kernel_rfl
 c233:=by kernel_rfl }
def Uj (w : World) : Prop := Wy w ∧ (∃ te pe, w.cell? ⟨3, 0, none⟩ = some (.iface te pe)) ∧ Lib.TabIs Tryz.prog w "internal/strconv.uint64pow10" .u64 Lib.pow10Tab
theorem Ynn : Tryz.prog.globalNamed "internal/strconv.uint64pow10" = some 0 := by kernel_rfl
theorem Yjd {w:World} {b o:Nat} {v:Value} (h:w.cell? ⟨b,o,none⟩=some v):b < w.heap.size:=World.block_lt_of_cell? w _ h
theorem Uj.below {w w':World} (h:Uj w) (hb:Below w.heap.size w w'):Uj w':=by
 obtain ⟨ht,⟨te,pe,hc⟩,hp⟩:=h
 exact ⟨ht.below hb ht.lt,⟨te,pe,(hb.cell (p:=⟨3,0,none⟩) (Yjd hc)).trans hc⟩,Go.Joins.var_stays Ynn hp hb (Nat.le_refl _)⟩
def K5 (w wx:World):Prop:=Uj wx∧Below w.heap.size w wx
theorem K5.start {w:World} (h:Uj w):K5 w w:=⟨h,Below.refl _ _⟩
theorem K5.next {w wx wy:World} (h:K5 w wx) (hb:Below wx.heap.size wx wy):K5 w wy:=⟨h.1.below hb,h.2.trans (hb.mono h.2.size)⟩
theorem K5.alloc {w wx:World} (h:K5 w wx) (o:Obj):K5 w (wx.alloc o):=h.next ((Below.refl _ _).alloc (Nat.le_refl _) o)
theorem So (s:ByteArray) (hs:s.size≤1100000) (hk:Up s.data.toList=3) (hf:Ja (Mm s.data.toList)=true) (w:World) :
   Calls Tryz.prog 189 #[.string s,.int .i64 10,.int .i64 64] w fun e w'=>e=.returned (.tuple #[.int .i64 (Mm s.data.toList),.nilIface])∧Below w.heap.size w w':=by
 have hp:=T9 hk
 rw [if_pos hf] at hp
 refine (Any.strconv_ParseInt_10_at64_ok Zji s (by omega) _ hp w).mono ?_
 rintro e w' ⟨he,h|⟨t,h⟩⟩
 · subst h;exact ⟨he,Below.refl _ _⟩
 · subst h;exact ⟨he,Lib.bytesWorld_below _ _ _⟩
theorem Zzn (s:ByteArray) (hs:s.size≤1100000) (hk:Up s.data.toList=3) (hf:Ja (Mm s.data.toList)=false) (w:World) (hw:Uj w) :
  Calls Tryz.prog 189 #[.string s,.int .i64 10,.int .i64 64] w fun e w'=>(∃ z N,e=.returned (.tuple #[.int .i64 z,.iface 257 (.pointer (some ⟨N,0,none⟩))]))∧Below w.heap.size w w':=by
 have hp:=T9 hk
 rw [if_neg (by rw [hf];simp)] at hp
 obtain ⟨_,⟨te,pe,hc⟩,_⟩:=hw
 refine (Any.strconv_ParseInt_10_at64_range Zji s (by omega) hp (.iface te pe) w hc (Or.inr ⟨te,pe,rfl⟩)).mono ?_
 rintro e w' ⟨N,he,_,_,hb⟩
 exact ⟨⟨_,N,he⟩,hb⟩
end Go.Proofs.YtpkmbhnikilihaaGreatDoor
