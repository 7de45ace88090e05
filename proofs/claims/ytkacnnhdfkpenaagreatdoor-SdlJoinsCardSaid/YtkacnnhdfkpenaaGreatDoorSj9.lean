/- The walks of token's mark and word. -/
import Derived.Test.YtkacnnhdfkpenaaGreatDoorSj8
set_option maxRecDepth 100000
set_option maxHeartbeats 1000000
namespace Go.Proofs.YtkacnnhdfkpenaaGreatDoor
open Go.RowKit
theorem ret_tok {R:Ending→World→Prop} {fn:Func} {a:Act} {W:World} {k v:Value} {b:Nat} (hf:fn.results=#[.cell 2 52,.tmp 3]) (h2:a.tmps.getD 2 undef=.pointer (some ⟨b,0,none⟩)) (hd:a.defers=[])
  (hc:W.heap[b]? = some (.cells #[k,v] 52 (0,0))) (hR:R (.returned (.tuple #[.agg #[k,v],a.tmps.getD 3 undef])) W):bodyPost Tryz.prog fn R .ret a W:=by
 have hl:(loadVar 52 ⟨b,0,none⟩).run Tryz.prog W=.ok (.agg #[k,v]) W:=
  run_loadVar_row W b 52 52 #[k,v] (0,0) _ hc Tryz.underlying52 rfl (by kernel_rfl)
 refine bodyPost_ret ?_ hd hR
 have h2':a.tmps[2]?.getD undef=.pointer (some ⟨b,0,none⟩):=by rw [← h2];simp
 simp [results,hf,h2',asAddr,hl]
theorem below_new {w:World} {cs:Array Value} {t:TypeId} : Below w.heap.size w (w.alloc (.cells cs t)):=(Below.refl _ _).alloc (Nat.le_refl _) _
theorem ret_t {k n m:Int} {x y:ByteArray} (hx:x=y) (h:n=m):Ending.returned (.tuple #[.agg #[.int .i64 k,.string x],.int .i64 n])=.returned (.tuple #[.agg #[.int .i64 k,.string y],.int .i64 m]):=by rw [hx,h]
def tokS (k:Int) (l:List UInt8) (n:Nat):Value:=if n=0 then .tuple #[.agg #[.int .i64 0,.string ⟨#[]⟩],.int .i64 0] else .tuple #[.agg #[.int .i64 k,.string ⟨l.toArray⟩],.int .i64 n]
theorem tokS_no (k:Int) (l:List UInt8):tokS k l 0=.tuple #[.agg #[.int .i64 0,.string ⟨#[]⟩],.int .i64 0]:=rfl
theorem tokS_yes {k:Int} {l:List UInt8} {n:Nat} (h:n ≠ 0):tokS k l n=.tuple #[.agg #[.int .i64 k,.string ⟨l.toArray⟩],.int .i64 n]:=if_neg h
theorem idx_marks:∀ b:UInt8,decide (Lib.indexByte [33,36,38,40,41,58,61,64,91,93,123,124,125] b < 0) = !isMark b:=byte_all (by decide +kernel)
theorem mark_any (s:ByteArray) (w:World):Calls Tryz.prog 101 #[.string s] w fun e w'=>e=.returned (tokS 1 (s.data.toList.take (markN s.data.toList)) (markN s.data.toList))∧Below w.heap.size w w':=by
 cases hp:pre [46,46,46] s.data.toList
 · have HP:=Hd (hasP s ⟨#[46,46,46]⟩ (w.alloc (.cells #[.int .i64 0,.string ⟨#[]⟩] 52)) false hp)
   rcases Nat.eq_zero_or_pos s.size with h0|h0
   · have hr:Hid (markN s.data.toList=0):=Hd (by rw [nil_of_size h0];rfl)
     have he:=empty_yes h0
     clear hp
     go_enter Tryz.func101,Tryz.ntmps101
     go_wp2_with fail
     refine HP.out.mono ?_
     rintro e w1 ⟨rfl,rfl⟩
     go_wp2_with fail
     refine ret_tok rfl rfl rfl (heap_alloc_last _ _) ⟨?_,below_new⟩
     rw [hr.out]
     rfl
   · have he:=empty_no h0
     have hm:markN s.data.toList=if isMark s[0] then 1 else 0:=by
       rw [cons_at s h0] at hp ⊢
       simp only [markN,hp]
       rfl
     have hI:=indexByte_any ⟨#[33,36,38,40,41,58,61,64,91,93,123,124,125]⟩ (s[0].toNat:Int) (w.alloc (.cells #[.int .i64 0,.string ⟨#[]⟩] 52))
     have hx:=idx_marks s[0]
     rw [show ((s[0].toNat:Int).toNat.toUInt8)=s[0] by simp] at hI
     obtain ⟨r,hR⟩:∃ r,Lib.indexByte (⟨#[33,36,38,40,41,58,61,64,91,93,123,124,125]⟩:ByteArray).data.toList s[0]=r:=⟨_,rfl⟩
     rw [hR] at hI
     have hx':decide (r < 0) = !isMark s[0]:=by rw [← hR];exact hx
     have HI:=Hd hI
     clear hx hI hR hp
     cases hb:isMark s[0]
     · have hr:Hid (markN s.data.toList=0):=Hd (by rw [hm,hb];rfl)
       have hneg:r < 0:=by rw [hb] at hx';simpa using hx'
       clear hm hb hx'
       go_enter Tryz.func101,Tryz.ntmps101
       go_wp2_with fail
       refine HP.out.mono ?_
       rintro e w1 ⟨rfl,rfl⟩
       go_wp2_with fail
       refine HI.out.mono ?_
       rintro e w1 ⟨rfl,rfl⟩
       go_wp2_with fail
       refine ret_tok rfl rfl rfl (heap_alloc_last _ _) ⟨?_,below_new⟩
       rw [hr.out]
       rfl
     · have hr:Hid (markN s.data.toList=1):=Hd (by rw [hm,hb];rfl)
       have hneg : ¬ r < 0:=by rw [hb] at hx';simpa using hx'
       have h1:1≤s.size:=h0
       clear hm hb hx'
       go_enter Tryz.func101,Tryz.ntmps101
       go_wp2_with fail
       refine HP.out.mono ?_
       rintro e w1 ⟨rfl,rfl⟩
       go_wp2_with fail
       refine HI.out.mono ?_
       rintro e w1 ⟨rfl,rfl⟩
       go_wp2_with fail
       refine ret_tok rfl rfl rfl (heap_alloc_last _ _) ⟨?_,below_new⟩
       rw [hr.out,tokS_yes (by omega)]
       exact ret_t (mk_of (ext_take s 1)).symm rfl
 · have HP:=Hd (hasP s ⟨#[46,46,46]⟩ (w.alloc (.cells #[.int .i64 0,.string ⟨#[]⟩] 52)) true hp)
   have hr:Hid (markN s.data.toList=3∧s.data.toList.take 3=[46,46,46]):=Hd (by
     have h3:=pre_len hp
     rw [len_data] at h3
     refine ⟨?_,?_⟩
     · have h0:0 < s.size:=by simp at h3;omega
       rw [cons_at s h0] at hp ⊢
       simp only [markN,hp]
       rfl
     · unfold pre at hp
       rw [List.isPrefixOf_iff_prefix] at hp
       exact (List.prefix_iff_eq_take.1 hp).symm)
   clear hp
   go_enter Tryz.func101,Tryz.ntmps101
   go_wp2_with fail
   refine HP.out.mono ?_
   rintro e w1 ⟨rfl,rfl⟩
   go_wp2_with fail
   refine ret_tok rfl rfl rfl (heap_alloc_last _ _) ⟨?_,below_new⟩
   rw [hr.out.1,hr.out.2,tokS_yes (by omega)]
   rfl
def wordTo (l:List UInt8) (k:Nat):Prop:=k=0∨wordN l=k+((l.drop k).takeWhile nameU).length
theorem wordTo_start {l:List UInt8} (h:headB letU l=true):wordTo l 1:=by
 cases l with
 | nil=>cases h
 | cons b t =>
   have h':letU b=true:=h
   refine .inr ?_
   simp [wordN,h']
theorem wordTo_none {l:List UInt8} (h:headB letU l=false):wordN l=0:=by
 cases l with
 | nil=>rfl
 | cons b t =>
   have h':letU b=false:=h
   simp [wordN,h']
theorem wordTo_next {l:List UInt8} {k:Nat} (h:wordTo l k) (hk:k ≠ 0) (hb:headB nameU (l.drop k)=true):wordTo l (k+1):=by
 rcases h with h|h
 · exact absurd h hk
 refine .inr ?_
 rw [h,show k+1=k+1 from rfl,← List.drop_drop]
 cases hl:l.drop k with
 | nil=>rw [hl] at hb;cases hb
 | cons b t =>
   rw [hl] at hb
   have hb':nameU b=true:=hb
   rw [List.takeWhile_cons]
   simp [hb']
   omega
theorem wordTo_end {l:List UInt8} {k:Nat} (h:wordTo l k) (hk:k ≠ 0) (hb:headB nameU (l.drop k)=false):wordN l=k:=by
 rcases h with h|h
 · exact absurd h hk
 rw [h]
 cases hl:l.drop k with
 | nil=>simp
 | cons b t =>
   rw [hl] at hb
   have hb':nameU b=false:=hb
   rw [List.takeWhile_cons]
   simp [hb']
theorem head_or (l:List UInt8):headB nameU l=(headB letU l || headB digU l):=by
 cases l<;>rfl
theorem tletter_at (s:ByteArray) (k:Nat) (w:World):Calls Tryz.prog 178 #[.string (s.extract k s.size)] w fun e w'=>e=.returned (.bool (headB letU (s.data.toList.drop k)))∧w=w':=by
 have h:=tletter_any (s.extract k s.size) w
 rwa [ext_data] at h
theorem tdigit_at (s:ByteArray) (k:Nat) (w:World):Calls Tryz.prog 179 #[.string (s.extract k s.size)] w fun e w'=>e=.returned (.bool (headB digU (s.data.toList.drop k)))∧w=w':=by
 have h:=tdigit_any (s.extract k s.size) w
 rwa [ext_data] at h
theorem head_lt {s:ByteArray} {k:Nat} {p:UInt8→Bool} (h:headB p (s.data.toList.drop k)=true):k < s.size:=by
 rcases Nat.lt_or_ge k s.size with h'|h'
 · exact h'
 · rw [drop_all s k h'] at h;cases h
theorem word_any (s:ByteArray) (w:World) (hs:s.size≤1100000):Calls Tryz.prog 102 #[.string s] w fun e w'=>e=.returned (tokS 2 (s.data.toList.take (wordN s.data.toList)) (wordN s.data.toList))∧Below w.heap.size w w':=by
 go_enter Tryz.func102,Tryz.ntmps102
 go_wp2
 go_loopg [4] s.size (fun g i wx=>∃ k:Nat,k+g=s.size∧i=.int .i64 k∧wx=w.alloc (.cells #[.int .i64 0,.string ⟨#[]⟩] 52)∧Aside (wordTo s.data.toList k))
 case atStart=>exact ⟨0,by omega,rfl,rfl,Aside.intro (.inl rfl)⟩
 case round =>
  obtain ⟨k,hk,rfl,rfl,H⟩:=hrel
  have hks:(k:Int)≤(s.size:Int):=by omega
  have hk0:(0:Int)≤(k:Int):=by omega
  have HL:=Hd (tletter_at s k (w.alloc (.cells #[.int .i64 0,.string ⟨#[]⟩] 52)))
  have HD:=Hd (tdigit_at s k (w.alloc (.cells #[.int .i64 0,.string ⟨#[]⟩] 52)))
  cases hb:headB letU (s.data.toList.drop k)
  · rcases Nat.eq_zero_or_pos k with hz|hz
    · have hr:Hid (wordN s.data.toList=0):=Hd (wordTo_none (by rwa [hz,List.drop_zero] at hb))
      have hb':=Hd hb
      have e0:((k:Int) == 0)=true:=by simp;omega
      have e1 : ¬ (0:Int) < (k:Int):=by omega
      clear H hb hz
      go_wp2_with fail
      refine HL.out.mono ?_
      rintro e w1 ⟨rfl,rfl⟩
      rw [hb'.out]
      go_wp2_with fail
      refine ret_tok rfl rfl rfl (heap_alloc_last _ _) ⟨?_,below_new⟩
      rw [hr.out]
      rfl
    · have hz':(0:Int) < (k:Int):=by omega
      cases hd:headB digU (s.data.toList.drop k)
      · have hr:Hid (wordN s.data.toList=k):=Hd (wordTo_end H.out (by omega) (by rw [head_or,hb,hd];rfl))
        have hb':=Hd hb
        have hd':=Hd hd
        have e0:((k:Int) == 0)=false:=by simp;omega
        clear H hb hd
        go_wp2_with fail
        refine HL.out.mono ?_
        rintro e w1 ⟨rfl,rfl⟩
        rw [hb'.out]
        go_wp2_with fail
        refine HD.out.mono ?_
        rintro e w1 ⟨rfl,rfl⟩
        rw [hd'.out]
        go_wp2_with fail
        refine ret_tok rfl rfl rfl (heap_alloc_last _ _) ⟨?_,below_new⟩
        rw [hr.out,tokS_yes (by omega)]
        exact ret_t (mk_of (ext_take s k)).symm rfl
      · have hlt:=head_lt hd
        have hr:=Hd (wordTo_next H.out (by omega) (by rw [head_or,hb,hd];rfl))
        have hb':=Hd hb
        have hd':=Hd hd
        clear H hb hd
        go_wp2_with fail
        refine HL.out.mono ?_
        rintro e w1 ⟨rfl,rfl⟩
        rw [hb'.out]
        go_wp2_with fail
        refine HD.out.mono ?_
        rintro e w1 ⟨rfl,rfl⟩
        rw [hd'.out]
        go_wp2_with fail
        go_roundg (gk - 1)
        case measure=>omega
        case rel=>exact ⟨k+1,by omega,by go_num,rfl,Aside.intro hr.out⟩
  · have hlt:=head_lt hb
    have hr:Hid (wordTo s.data.toList (k+1)):=Hd (by
      rcases Nat.eq_zero_or_pos k with hz|hz
      · subst hz
        exact wordTo_start (by rwa [List.drop_zero] at hb)
      · exact wordTo_next H.out (by omega) (by rw [head_or,hb];rfl))
    have hb':=Hd hb
    clear H hb
    go_wp2_with fail
    refine HL.out.mono ?_
    rintro e w1 ⟨rfl,rfl⟩
    rw [hb'.out]
    go_wp2_with fail
    go_roundg (gk - 1)
    case measure=>omega
    case rel=>exact ⟨k+1,by omega,by go_num,rfl,Aside.intro hr.out⟩
theorem frac_at (s:ByteArray) (k:Nat) (w:World) (hs:s.size≤1100000):Calls Tryz.prog 182 #[.string (s.extract k s.size)] w fun e w'=>e=.returned (.int .i64 (fracL (s.data.toList.drop k)))∧w=w':=by
 have h:=fraction_any (s.extract k s.size) w (by rw [ext_size];omega)
 rwa [ext_data] at h
theorem expo_at (s:ByteArray) (k:Nat) (w:World) (hs:s.size≤1100000):Calls Tryz.prog 183 #[.string (s.extract k s.size)] w fun e w'=>e=.returned (.int .i64 (expoL (s.data.toList.drop k)))∧w=w':=by
 have h:=exponent_any (s.extract k s.size) w (by rw [ext_size];omega)
 rwa [ext_data] at h
theorem dot_at (s:ByteArray) (k:Nat) (w:World) (b:Bool) (h:headB (fun b=>b == 46) (s.data.toList.drop k)=b):Calls Tryz.prog 176 #[.string (s.extract k s.size),.string ⟨#[46]⟩] w fun e w'=>e=.returned (.bool b)∧w=w':=
 hasP (s.extract k s.size) ⟨#[46]⟩ w b (by rw [ext_data];exact (pre_one 46 _).trans h)
theorem minusL_head (l:List UInt8):minusL l=if headB (fun b=>b == 45) l then 1 else 0:=by cases l<;>rfl
theorem minus_trim (s:ByteArray) (w:World):∃ t:ByteArray,t.size+minusL s.data.toList=s.size∧Calls Tryz.prog 180 #[.string s,.string ⟨#[45]⟩] w fun e w'=>e=.returned (.string t)∧w=w':=by
 refine ⟨⟨(Lib.trimPrefix s.data.toList [45]).toArray⟩,?_,(trimPrefix_any s ⟨#[45]⟩ w).mono fun _ _ ⟨he,hw⟩=>⟨he,hw.symm⟩⟩
 rw [size_mk,minusL_head]
 have hl:=len_data s
 cases hb:headB (fun b=>b == 45) s.data.toList
 · rw [show Lib.trimPrefix s.data.toList [45]=s.data.toList from if_neg (by show ¬ pre [45] s.data.toList=true;rw [pre_one,hb];simp)]
   simp [hl]
 · rw [show Lib.trimPrefix s.data.toList [45]=s.data.toList.drop 1 from if_pos (by show pre [45] s.data.toList=true;rw [pre_one,hb])]
   have:s.data.toList ≠ []:=by intro e;rw [e] at hb;cases hb
   have:s.data.toList.length ≠ 0:=fun e=>this (List.eq_nil_of_length_eq_zero e)
   rw [List.length_drop]
   simp only [if_true]
   omega
theorem whole_run (l:List UInt8):wholeL l=0 ↔ runL l=0:=by
 cases l with
 | nil=>simp [wholeL,runL]
 | cons b t =>
   simp only [wholeL]
   split
   · rename_i h
     have:b=48:=by simpa using h
     subst this
     rw [runL_yes (by decide)]
     omega
   · exact Iff.rfl
theorem number_mid {l:List UInt8} {m W f x K K2 N:Nat} (hm:minusL l=m) (hW:wholeL (l.drop m)=W) (h0:W ≠ 0) (hK:m+W=K) (hf:fracL (l.drop K)=f) (hK2:K+f=K2) (hx:expoL (l.drop K2)=x) (hN:K2+x=N) :
  nmL l=(N,if f=0∧x=0 then 3 else 4):=by
 unfold nmL
 subst hm hW hK hf hK2 hx hN
 rw [if_neg h0]
theorem behind_head (l:List UInt8):behindB l=(headB digU l || headB letU l || headB (fun b=>b == 46) l):=by cases l<;>rfl
theorem number_bad {l:List UInt8} {N:Nat} {k:Int} (h:nmL l=(N,k)) (hb:behindB (l.drop N)=true):nbL l=(0,0):=by
 unfold nbL
 rw [h]
 simp only [hb]
 split<;>rfl
theorem number_good {l:List UInt8} {N:Nat} {k:Int} (h:nmL l=(N,k)) (h0:N ≠ 0) (hb:behindB (l.drop N)=false):nbL l=(N,k):=by
 unfold nbL
 rw [h]
 simp [hb,h0]
abbrev tok0:Obj:=.cells #[.int .i64 0,.string ⟨#[]⟩] 52
theorem number_any (s:ByteArray) (w:World) (hs:s.size≤1100000):Calls Tryz.prog 103 #[.string s] w fun e w'=>e=.returned (tokS (nbL s.data.toList).2 (s.data.toList.take (nbL s.data.toList).1) (nbL s.data.toList).1)∧Below w.heap.size w w':=by
 obtain ⟨t,ht,hT⟩:=minus_trim s (w.alloc tok0)
 have hml:=minusL_le s.data.toList
 rw [len_data] at hml
 obtain ⟨m,hM⟩:∃ m,minusL s.data.toList=m:=⟨_,rfl⟩
 rw [hM] at ht hml
 have hD:=digits_at s m (w.alloc tok0) hs
 have hrl:=runL_le (s.data.toList.drop m)
 rw [List.length_drop,len_data] at hrl
 have hwr:=whole_run (s.data.toList.drop m)
 obtain ⟨r,hR⟩:∃ r,runL (s.data.toList.drop m)=r:=⟨_,rfl⟩
 rw [hR] at hD hrl hwr
 have E0:(s.size:Int) - (t.size:Int)=(m:Int):=by omega
 have hm0:(m:Int)≤(s.size:Int):=by omega
 have HT:=Hd hT
 have HD:=Hd hD
 have HM:=Hd hM
 clear hT hD hM ht
 rcases Nat.eq_zero_or_pos r with hz|hz
 · have hr:Hid (nbL s.data.toList=(0,0)):=Hd (by
    unfold nbL nmL
    rw [HM.out,if_pos (hwr.2 hz)]
    rfl)
   have e0:((r:Int) == 0)=true:=by simp;omega
   clear hz hwr hR
   go_enter Tryz.func103,Tryz.ntmps103
   go_wp2_with fail
   refine HT.out.mono ?_
   rintro e w1 ⟨rfl,rfl⟩
   go_wp2_with fail
   refine HD.out.mono ?_
   rintro e w1 ⟨rfl,rfl⟩
   go_wp2_with fail
   refine ret_tok rfl rfl rfl (heap_alloc_last _ _) ⟨?_,below_new⟩
   rw [hr.out]
   rfl
 · have e0:((r:Int) == 0)=false:=by simp;omega
   have hmlt:m < s.size:=by omega
   have hmlt':(m:Int) < (s.size:Int):=by omega
   have hwd:wholeL (s.data.toList.drop m)=if s[m] == 48 then 1 else r:=by
    rw [← hR,drop_at s m hmlt];rfl
   have hwl:=wholeL_le (s.data.toList.drop m)
   rw [List.length_drop,len_data] at hwl
   obtain ⟨W,hW⟩:∃ W,wholeL (s.data.toList.drop m)=W:=⟨_,rfl⟩
   rw [hW] at hwd hwl hwr
   have hW0:W ≠ 0:=fun h=>by have:=hwr.1 h;omega
   obtain ⟨K,hK⟩:∃ K,m+W=K:=⟨_,rfl⟩
   have E1:(m:Int)+(W:Int)=(K:Int):=by omega
   have hKs:(K:Int)≤(s.size:Int):=by omega
   have hF:=frac_at s K (w.alloc tok0) hs
   have hfl:=fracL_le (s.data.toList.drop K)
   rw [List.length_drop,len_data] at hfl
   obtain ⟨f,hf⟩:∃ f,fracL (s.data.toList.drop K)=f:=⟨_,rfl⟩
   rw [hf] at hF hfl
   obtain ⟨K2,hK2⟩:∃ K2,K+f=K2:=⟨_,rfl⟩
   have E2:(K:Int)+(f:Int)=(K2:Int):=by omega
   have hK2s:(K2:Int)≤(s.size:Int):=by omega
   have hX:=expo_at s K2 (w.alloc tok0) hs
   have hxl:=expoL_le (s.data.toList.drop K2)
   rw [List.length_drop,len_data] at hxl
   obtain ⟨x,hx⟩:∃ x,expoL (s.data.toList.drop K2)=x:=⟨_,rfl⟩
   rw [hx] at hX hxl
   obtain ⟨N,hN⟩:∃ N,K2+x=N:=⟨_,rfl⟩
   have E3:(K2:Int)+(x:Int)=(N:Int):=by omega
   have hNs:(N:Int)≤(s.size:Int):=by omega
   have hNum:=Hd (number_mid HM.out hW hW0 hK hf hK2 hx hN)
   have HF:=Hd hF
   have HX:=Hd hX
   have HN0:Hid (N ≠ 0):=Hd (by omega)
   have HWD:=Hd hwd
   have HK:=Hd hK
   have HK2:=Hd hK2
   have HN:=Hd hN
   clear hF hX hwd hwr hW hK hf hK2 hx hN hz hR hfl hxl hwl hW0 hrl
   go_enter Tryz.func103,Tryz.ntmps103
   go_wp2_with fail
   refine HT.out.mono ?_
   rintro e w1 ⟨rfl,rfl⟩
   go_wp2_with fail
   refine HD.out.mono ?_
   rintro e w1 ⟨rfl,rfl⟩
   go_upto_if 26 with (fail)
   go_cut [5] (fun wv wx=>wv=.int .i64 W∧wx=w.alloc tok0)
   case first =>
    cases hb:(s[m] == 48)
    · obtain ⟨b1,b2⟩:=beqF hb 48 rfl
      obtain rfl:W=r:=by have:=HWD.out;rw [hb] at this;exact this
      clear hb
      go_wp2_with fail
      go_meet
      exact ⟨rfl,rfl⟩
    · obtain ⟨b1,b2⟩:=beqT hb 48 rfl
      obtain rfl:W=1:=by have:=HWD.out;rw [hb] at this;exact this
      clear hb
      go_wp2_with fail
      go_meet
      exact ⟨rfl,rfl⟩
   case rest =>
    obtain ⟨rfl,rfl⟩:=hcut
    go_upto_if 35 with (fail)
    refine HF.out.mono ?_
    rintro e w1 ⟨rfl,rfl⟩
    go_upto_if 35 with (fail)
    go_cut [4,6] (fun nv kv wx=>nv=.int .i64 K2∧kv=.int .i64 (if f=0 then 3 else 4)∧wx=w.alloc tok0)
    case first =>
      rcases Nat.eq_zero_or_pos f with hz|hz
      · have hz' : ¬ (0:Int) < (f:Int):=by omega
        have HZ:=Hd hz
        clear hz
        go_wp2_with fail
        go_meet
        exact ⟨by have:=HK2.out;have:=HZ.out;congr 1;omega,by rw [if_pos HZ.out],rfl⟩
      · have hz':(0:Int) < (f:Int):=by omega
        have HZ:=Hd hz
        clear hz
        go_wp2_with fail
        go_meet
        exact ⟨rfl,by have:=HZ.out;rw [if_neg (by omega)],rfl⟩
    case rest =>
      obtain ⟨rfl,rfl,rfl⟩:=hcut
      obtain ⟨k1,hk1⟩:∃ k1:Int,(if f=0 then 3 else 4:Int)=k1:=⟨_,rfl⟩
      rw [hk1]
      have HK1:=Hd hk1
      clear hk1
      go_upto_if 44 with (fail)
      refine HX.out.mono ?_
      rintro e w1 ⟨rfl,rfl⟩
      go_upto_if 44 with (fail)
      go_cut [4,6] (fun nv kv wx=>nv=.int .i64 N∧kv=.int .i64 (if f=0∧x=0 then 3 else 4)∧wx=w.alloc tok0)
      case first =>
        rcases Nat.eq_zero_or_pos x with hz|hz
        · have hz' : ¬ (0:Int) < (x:Int):=by omega
          have HZ:=Hd hz
          clear hz
          go_wp2_with fail
          go_meet
          exact ⟨by have:=HN.out;have:=HZ.out;congr 1;omega,by rw [← HK1.out];have:=HZ.out;simp [this],rfl⟩
        · have hz':(0:Int) < (x:Int):=by omega
          have HZ:=Hd hz
          clear hz
          go_wp2_with fail
          go_meet
          exact ⟨rfl,by have:=HZ.out;rw [if_neg (by omega)],rfl⟩
      case rest =>
        obtain ⟨rfl,rfl,rfl⟩:=hcut
        obtain ⟨k2,hk2⟩:∃ k2:Int,(if f=0∧x=0 then 3 else 4:Int)=k2:=⟨_,rfl⟩
        rw [hk2]
        have hnum:=hNum.out
        rw [hk2] at hnum
        have HNU:=Hd hnum
        clear hk2 hnum hNum HK1
        have HDG:=Hd (tdigit_at s N (w.alloc tok0))
        have HLT:=Hd (tletter_at s N (w.alloc tok0))
        have hbh:=behind_head (s.data.toList.drop N)
        cases hd:headB digU (s.data.toList.drop N)
        · cases hl:headB letU (s.data.toList.drop N)
          · cases hp:headB (fun b=>b == 46) (s.data.toList.drop N)
            · have HP:=Hd (dot_at s N (w.alloc tok0) false hp)
              have hr:=Hd (number_good HNU.out HN0.out (by rw [hbh,hd,hl,hp];rfl))
              have hd':=Hd hd
              have hl':=Hd hl
              clear hbh hd hl hp
              go_wp2_with fail
              refine HDG.out.mono ?_
              rintro e w1 ⟨rfl,rfl⟩
              rw [hd'.out]
              go_wp2_with fail
              refine HLT.out.mono ?_
              rintro e w1 ⟨rfl,rfl⟩
              rw [hl'.out]
              go_wp2_with fail
              refine HP.out.mono ?_
              rintro e w1 ⟨rfl,rfl⟩
              go_wp2_with fail
              refine ret_tok rfl rfl rfl (heap_alloc_last _ _) ⟨?_,below_new⟩
              rw [hr.out,tokS_yes HN0.out]
              exact ret_t (mk_of (ext_take s N)).symm rfl
            · have HP:=Hd (dot_at s N (w.alloc tok0) true hp)
              have hr:=Hd (number_bad HNU.out (by rw [hbh,hd,hl,hp];rfl))
              have hd':=Hd hd
              have hl':=Hd hl
              clear hbh hd hl hp
              go_wp2_with fail
              refine HDG.out.mono ?_
              rintro e w1 ⟨rfl,rfl⟩
              rw [hd'.out]
              go_wp2_with fail
              refine HLT.out.mono ?_
              rintro e w1 ⟨rfl,rfl⟩
              rw [hl'.out]
              go_wp2_with fail
              refine HP.out.mono ?_
              rintro e w1 ⟨rfl,rfl⟩
              go_wp2_with fail
              refine ret_tok rfl rfl rfl (heap_alloc_last _ _) ⟨?_,below_new⟩
              rw [hr.out]
              rfl
          · have hr:=Hd (number_bad HNU.out (by rw [hbh,hd,hl];rfl))
            have hd':=Hd hd
            have hl':=Hd hl
            clear hbh hd hl
            go_wp2_with fail
            refine HDG.out.mono ?_
            rintro e w1 ⟨rfl,rfl⟩
            rw [hd'.out]
            go_wp2_with fail
            refine HLT.out.mono ?_
            rintro e w1 ⟨rfl,rfl⟩
            rw [hl'.out]
            go_wp2_with fail
            refine ret_tok rfl rfl rfl (heap_alloc_last _ _) ⟨?_,below_new⟩
            rw [hr.out]
            rfl
        · have hr:=Hd (number_bad HNU.out (by rw [hbh,hd];rfl))
          have hd':=Hd hd
          clear hbh hd
          go_wp2_with fail
          refine HDG.out.mono ?_
          rintro e w1 ⟨rfl,rfl⟩
          rw [hd'.out]
          go_wp2_with fail
          refine ret_tok rfl rfl rfl (heap_alloc_last _ _) ⟨?_,below_new⟩
          rw [hr.out]
          rfl
end Go.Proofs.YtkacnnhdfkpenaaGreatDoor
